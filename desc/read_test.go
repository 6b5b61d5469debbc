package desc_test

import (
	"reflect"
	"slices"
	"strconv"
	"strings"
	"testing"

	"rostrum/api"
	"rostrum/desc"
)

// unknown are attributes that say nothing, wherever they stand.
var unknown = []string{
	"x", "x:y", "msid-semantic:WMS", "ice-options:trickle", "setup:actpass", "Group:BUNDLE d", "GROUP:BUNDLE", "groups:BUNDLE d", "grou", "ice-ufrag2:abcd", "ice-pwd-:0123456789012345678901",
	"ICE-UFRAG:abcd", "ice_ufrag:abcd", "ice-pw:d", "ice-lite", "fingerprint:sha-256 00", "candidate:1 1 UDP 1 127.0.0.1 9 typ host", "Mid:a", "rtcp-mux", "SENDRECV",
}

// What is known in a part alone says nothing ahead of the parts, and the other way round.
var (
	partsOwn = []string{"mid:a", "mid:x", "mid", "sendrecv", "inactive", "inactive:x", "rtpmap:96 VP8/90000", "fmtp:96 x", "rtcp-fb:96 nack", "extmap:1 x", "rid:q send", "simulcast:send q", "ssrc:1", "crypto:1 x", "sctp-port:0", "sctp-port"}
	headsOwn = []string{"group:BUNDLE d", "group:BUNDLE", "group", "ice-ufrag:abcd", "ice-ufrag:x", "ice-ufrag", "ice-pwd:0123456789012345678901", "ice-pwd"}
)

func attrLine(s string) string { return "a=" + s + "\r\n" }

// firstPart is the place of the first part's line, or of the end.
func firstPart(lines []string) int {
	if i := at(lines, "m="); i >= 0 {
		return i
	}
	return len(lines)
}

func TestReadUndoesPrint(t *testing.T) {
	list := all()
	for n := range api.MostParts + 1 {
		list = append(list, of(n, data), of(n, audio), of(n, func(mid string) api.Media { return crowded(mid, api.MostAttrs-4*n) }))
	}
	list = append(list, sized(api.MostText-100), sized(api.MostText))
	for _, d := range list {
		s, e := desc.Print(d)
		if e != api.OK {
			t.Errorf("%s: %v", short(d), e)
		}
		right(t, "printed", d, s)
	}
}

func TestReadOfUnknown(t *testing.T) {
	for _, d := range all() {
		s := laid(d)
		lines := linesOf(s)
		head := firstPart(lines)
		for i := 4; i <= len(lines); i++ {
			others := slices.Concat(unknown, partsOwn)
			if i > head {
				others = slices.Concat(unknown, headsOwn)
			}
			behind := strings.HasPrefix(lines[i-1], "m=")
			for _, u := range others {
				if behind {
					refused(t, "ahead of c=", put(s, i, attrLine(u)), i+2, api.ErrForm)
					continue
				}
				reads(t, u, put(s, i, attrLine(u)), d)
				reads(t, u, put(s, i, attrLine(u), attrLine("x"), attrLine(u)), d)
			}
		}
		between := ""
		for i, l := range lines {
			if i >= 4 && !strings.HasPrefix(l, "c=") {
				between += attrLine("x:" + strconv.Itoa(i))
			}
			between += l
		}
		reads(t, "between all", between+attrLine("x"), d)
	}
}

// Attributes that aren't known count for layer 6's limits all the same.
func TestReadOfManyUnknown(t *testing.T) {
	for _, d := range all() {
		s := laid(d)
		lines := linesOf(s)
		head := firstPart(lines)
		for i := 4; i <= head; i++ {
			most := slices.Repeat([]string{attrLine("x")}, api.MostAttrs-(head-4))
			reads(t, "MostAttrs ahead of the parts", put(s, i, most...), d)
			more := append(most, attrLine("x"))
			refused(t, "one more ahead of the parts", put(s, i, more...), 4+api.MostAttrs+1, api.ErrLarge)
		}
	}
	d := channel()
	s := laid(d)
	n := len(linesOf(s))
	most := slices.Repeat([]string{attrLine("x")}, api.MostAttrs-3)
	for i := n - 3; i <= n; i++ {
		reads(t, "MostAttrs in a part", put(s, i, most...), d)
		refused(t, "one more in a part", put(s, i, append(most, attrLine("x"))...), n+len(most)+1, api.ErrLarge)
	}
	for size := api.MostText - 3; size < api.MostText+4; size++ {
		s := laid(d)
		for len(s) < size {
			more := min(size-len(s), 150)
			if left := size - len(s) - more; left > 0 && left < 10 {
				more -= 10
			}
			s += attrLine("x:" + strings.Repeat("y", more-6))
		}
		if len(s) != size {
			t.Fatal(len(s), size)
		}
		if size <= api.MostText {
			reads(t, strconv.Itoa(size), s, d)
		} else {
			refused(t, strconv.Itoa(size), s, 0, api.ErrLarge)
		}
	}
}

// Layer 6's errors, and the lines that it tells.
func TestReadOfWrongLines(t *testing.T) {
	s := laid(whole())
	lines := linesOf(s)
	for i := range len(lines) {
		refused(t, "a line that is none", put(s, i, "x=y\r\n"), i+1, api.ErrForm)
		refused(t, "an empty line", put(s, i, "\r\n"), i+1, api.ErrForm)
		refused(t, "another letter", put(strings.Join(slices.Delete(linesOf(s), i, i+1), ""), i, "b"+lines[i][1:]), i+1, api.ErrForm)
		refused(t, "no end", strings.Join(lines[:i], "")+strings.TrimSuffix(lines[i], "\r\n"), i+1, api.ErrForm)
		refused(t, "an end of one byte", strings.Join(lines[:i], "")+strings.TrimSuffix(lines[i], "\r\n")+"\n"+strings.Join(lines[i+1:], ""), i+1, api.ErrForm)
		if i < 4 {
			refused(t, "an end too early", strings.Join(lines[:i], ""), i+1, api.ErrForm)
			refused(t, "twice", put(s, i, lines[i]), i+2, api.ErrForm)
		}
	}
	refused(t, "nothing", "", 1, api.ErrForm)
	refused(t, "more behind the end", s+"x", len(lines)+1, api.ErrForm)
	refused(t, "two bytes", "v=0\r\nx", 2, api.ErrForm)
	refused(t, "a part too many", laidOf(api.MostParts+1), 6+1+5*api.MostParts+1, api.ErrLarge)
	refused(t, "too long", strings.Repeat("v", api.MostText+1), 0, api.ErrLarge)
	refused(t, "far too long", strings.Repeat("v=0\r\n", 1<<20), 0, api.ErrLarge)
	wrongAhead := strings.Replace(s, "s=-", "s=x", 1)
	refused(t, "layer 6's fault is told first", wrongAhead+"x", len(lines)+1, api.ErrForm)
}

// laidOf is the text of n Media of Data, each of 5 lines.
func laidOf(n int) string { return laid(of(n, data)) }

// What is known ahead of the parts is left out, doubled, told otherwise, without a value, or behind the next.
func TestReadOfKnown(t *testing.T) {
	for _, d := range all() {
		s := laid(d)
		lines := linesOf(s)
		head := firstPart(lines)
		for i := 4; i < head; i++ {
			l := lines[i]
			left := strings.Join(slices.Delete(linesOf(s), i, i+1), "")
			renamed := put(left, i, "a="+strings.ToUpper(l[2:3])+l[3:])
			if strings.HasPrefix(l, "a=group") {
				without := d
				without.Bundle = nil
				reads(t, "no group", left, without)
				reads(t, "a group by an unknown name", renamed, without)
			} else {
				wrong(t, "left out: "+l, left)
				wrong(t, "by an unknown name: "+l, renamed)
			}
			for j := 4; j <= head; j++ {
				wrong(t, "doubled: "+l, put(s, j, l))
				wrong(t, "doubled, between others: "+l, put(s, j, attrLine("x"), l, attrLine("x")))
				if j < i || j > i+1 {
					wrong(t, "moved: "+l, moved(lines, i, j))
				}
			}
			word, _, _ := strings.Cut(strings.TrimSuffix(l, "\r\n"), ":")
			wrong(t, "no value: "+l, put(left, i, word+"\r\n"))
			refused(t, "a colon and no value: "+l, put(left, i, word+":\r\n"), i+1, api.ErrForm)
			for _, v := range []string{" ", "x", "-", "0", "abc", "abcd!", "abcd ", " abcd", "ab cd", "0123456789012345678901 ", " 0123456789012345678901", "012345678901234567890", strings.Repeat("z", 33), "BUNDLE", "BUNDLE ", " BUNDLE d", "BUNDLE  d", "BUNDLE d ", "bundle d", "Bundle d", "BUNDLEd", "BUNDLE d d", "BUNDLE x", "BUNDLE d x", "LS d", "d", "BUNDLE d,a", "BUNDLE\td"} {
				judged(t, word+" "+v, put(left, i, word+":"+v+"\r\n"))
			}
		}
	}
	d := bare()
	s := laid(d)
	d.Name = strings.Repeat("z", 32)
	reads(t, "another Name", strings.Replace(s, ":"+name, ":"+d.Name, 1), d)
	d.Name, d.Password = name, strings.Repeat("z", 32)
	reads(t, "another Password", strings.Replace(s, ":"+password, ":"+d.Password, 1), d)
}

// moved is the lines' text with the one at i put ahead of the one at j.
func moved(lines []string, i, j int) string {
	list := slices.Insert(slices.Clone(lines), j, lines[i])
	if j <= i {
		i++
	}
	return strings.Join(slices.Delete(list, i, i+1), "")
}

func TestReadOfOrigins(t *testing.T) {
	const right = "- 7 3 IN IP4 127.0.0.1"
	s := laid(channel())
	with := func(origin string) string { return strings.Replace(s, "o="+right, "o="+origin, 1) }
	for _, bad := range []string{
		"-", "- ", "- 7", "- 7 ", "- 7 3", "- 7 3 ", "- 7 3 IN", "- 7 3 IN IP4", "- 7 3 IN IP4 ", "- 7 IN IP4 127.0.0.1", "- IN IP4 127.0.0.1", "7 3 IN IP4 127.0.0.1", "-7 3 IN IP4 127.0.0.1", "7 3",
		" " + right, right + " ", right + "1", right + "/1", right + " x", "-  7 3 IN IP4 127.0.0.1", "- 7  3 IN IP4 127.0.0.1", "- 7 3  IN IP4 127.0.0.1", "- 7 3 IN  IP4 127.0.0.1", "- 7 3 IN IP4  127.0.0.1", "- 7 3 INIP4 127.0.0.1",
		"x 7 3 IN IP4 127.0.0.1", "-- 7 3 IN IP4 127.0.0.1", "- - 7 3 IN IP4 127.0.0.1", "- 7 3 4 IN IP4 127.0.0.1", "- 7 3 in IP4 127.0.0.1", "- 7 3 IN ip4 127.0.0.1", "- 7 3 IN IP6 127.0.0.1", "- 7 3 IN IP4 127.0.0.2", "- 7 3 IN IP4 0.0.0.0", "- 7 3 IN IP4 localhost", "- 7 3 IN IP4 127.0.0.01",
	} {
		wrong(t, bad, with(bad))
	}
	for _, n := range []string{"+N", "-N", "0N", "00N", "N0x", "xN", "N.", "N.0", "N_0", "Ne0", "0xN", "0bN", "18446744073709551616N", "18446744073709551616", "18446744073709551617", "36893488147419103232", "99999999999999999999", "100000000000000000000000000000000", "-0", "+0", "00", "-1", "-", "x", "N,", "N'"} {
		for _, number := range []string{"7", "0"} {
			n := strings.ReplaceAll(n, "N", number)
			wrong(t, "ID "+n, with("- "+n+" 3 IN IP4 127.0.0.1"))
			wrong(t, "Version "+n, with("- 7 "+n+" IN IP4 127.0.0.1"))
			wrong(t, "both "+n, with("- "+n+" "+n+" IN IP4 127.0.0.1"))
		}
	}
	for _, n := range []uint64{0, 1, 10, 18446744073709551614, 18446744073709551615} {
		d := channel()
		d.ID = n
		reads(t, "ID", with("- "+strconv.FormatUint(n, 10)+" 3 IN IP4 127.0.0.1"), d)
		d.ID, d.Version = 7, n
		reads(t, "Version", with("- 7 "+strconv.FormatUint(n, 10)+" IN IP4 127.0.0.1"), d)
	}
}

func TestReadOfNamesAndTimes(t *testing.T) {
	s := laid(channel())
	for _, v := range []string{" ", "- ", " -", "--", "x", "_", "0", "-\t", "rostrum"} {
		judged(t, "Name "+v, strings.Replace(s, "s=-", "s="+v, 1))
	}
	for _, v := range []string{"0", "0 ", " 0 0", "0 0 ", "0  0", "0 1", "1 0", "00 0", "0 00", "-0 0", "+0 0", "0 0 0", "00", "0,0", "0\t0", "- -", " "} {
		judged(t, "Time "+v, strings.Replace(s, "t=0 0", "t="+v, 1))
	}
	wrong(t, "another Name", strings.Replace(s, "s=-", "s=x", 1))
	wrong(t, "another Time", strings.Replace(s, "t=0 0", "t=0 1", 1))
}

func TestReadOfGroups(t *testing.T) {
	d := whole()
	s := laid(d)
	with := func(group string) string { return strings.Replace(s, "group:BUNDLE d v-1 a", group, 1) }
	for _, bad := range []string{
		"group", "group:BUNDLE", "group:BUNDLE ", "group:BUNDLE  ", "group:BUNDLE x", "group:BUNDLE d x", "group:BUNDLE x d", "group:BUNDLE d d", "group:BUNDLE d v-1 d", "group:BUNDLE a v-1 a d", "group:BUNDLE D", "group:BUNDLE d v",
		"group:BUNDLE d v-1 a ", "group:BUNDLE  d v-1 a", "group:BUNDLE d  v-1 a", "group: BUNDLE d", "group:BUNDLE d;a", "group:BUNDLE,d", "group:bundle d", "group:LS d", "group:BUNDLE2 d", "group:d", "group: d", "group: ", "group:BUNDLE BUNDLE d", "group:BUNDLE d v-1 a b x", "group:BUNDLE " + strings.Repeat("d ", 90) + "d",
	} {
		wrong(t, bad, with(bad))
	}
	for _, mids := range [][]string{{"d"}, {"a"}, {"b"}, {"a", "v-1", "d", "b"}, {"b", "d", "v-1", "a"}, {"v-1", "b"}} {
		d.Bundle = mids
		reads(t, "another group", with("group:BUNDLE "+strings.Join(mids, " ")), d)
	}
	other := strings.Replace(s, "a=group:BUNDLE d v-1 a\r\n", "a=group:BUNDLE d v-1\r\na=group:BUNDLE a\r\n", 1)
	wrong(t, "two groups", other)
	wrong(t, "a group without parts", put(laid(bare()), 4, attrLine("group:BUNDLE d")))
	wrong(t, "a group of nothing without parts", put(laid(bare()), 4, attrLine("group:BUNDLE")))
	wrong(t, "a group of an empty Mid without parts", put(laid(bare()), 4, attrLine("group:BUNDLE ")))
}

func TestReadOfParts(t *testing.T) {
	d := whole()
	s := laid(d)
	for _, change := range [][2]string{
		{"mid:v-1", "mid:b"}, {"mid:b", "mid:v-1"}, {"mid:b", "mid:d"}, {"mid:d", "mid:a"}, {"mid:d", "mid:e"}, {"mid:v-1", "mid:V-1"}, {"a=mid:b\r\n", ""}, {"a=mid:a\r\n", ""}, {"mid:b", "mid:" + strings.Repeat("b", 17)},
		{"VP8/90000", "VP8/90000/1"}, {"sctp-port:5000", "sctp-port:0"}, {"sctp-port:5000", "sctp-port:65536"}, {"a=sctp-port:5000\r\n", ""}, {"a=sendrecv", "a=sendonly\r\na=sendrecv"}, {"m=audio 0", "m=audio 1"}, {"c=IN IP4 0.0.0.0\r\n", ""}, {"c=IN IP4 0.0.0.0", "c=IN IP4 127.0.0.1"},
		{"a=rid:q send\r\n", ""}, {"a=crypto:1", "a=crypto:0"}, {"a=ssrc:77", "a=ssrc:4294967295"}, {"a=extmap:14", "a=extmap:3"}, {"96 102", "102 96"},
	} {
		if !strings.Contains(s, change[0]) {
			t.Fatal(change)
		}
		wrong(t, change[0]+" to "+change[1], strings.Replace(s, change[0], change[1], 1))
	}
	d.Media[3].Mid = "c"
	reads(t, "another Mid", strings.Replace(s, "mid:b", "mid:c", 1), d)
	lines := linesOf(s)
	first, second := firstPart(lines), at(lines, "m=video")
	d = whole()
	d.Media = append(d.Media[1:], d.Media[0])
	turned := slices.Concat(lines[:first], lines[second:], lines[first:second])
	reads(t, "the first part at the end", strings.Join(turned, ""), d)
}

// Each line is left out, doubled, or changed with the next.
func TestReadOfEditedLines(t *testing.T) {
	for _, d := range append(all(), of(api.MostParts, audio)) {
		s := laid(d)
		lines := linesOf(s)
		for i, l := range lines {
			judged(t, "left out", strings.Join(slices.Delete(slices.Clone(lines), i, i+1), ""))
			judged(t, "doubled", put(s, i, l))
			judged(t, "cut behind", strings.Join(lines[:i], ""))
			for j := range lines {
				judged(t, "moved", moved(lines, i, j))
				judged(t, "put in", put(s, j, l))
			}
		}
	}
}

// Each byte of a text is turned into another.
func TestReadOfEditedBytes(t *testing.T) {
	for _, d := range []api.Desc{bare(), channel()} {
		s := laid(d)
		for i := range len(s) {
			for c := range 256 {
				judged(t, "byte", s[:i]+string([]byte{byte(c)})+s[i+1:])
			}
		}
	}
	s := laid(whole())
	for i := range len(s) {
		for _, c := range "\x00\r\n\x1f !+-./0129:=ADazd~\x7f" {
			judged(t, "byte", s[:i]+string(c)+s[i+1:])
		}
		judged(t, "byte", s[:i]+"\xff"+s[i+1:])
		judged(t, "left out", s[:i]+s[i+1:])
		judged(t, "doubled", s[:i+1]+s[i:])
		judged(t, "put in", s[:i]+" "+s[i:])
		judged(t, "put in", s[:i]+"0"+s[i:])
		judged(t, "cut", s[:i])
	}
}

// No two lists of an answer share memory, nor do two answers: each list is spoilt alone, its spare room too.
func TestReadAnswersNewMemory(t *testing.T) {
	want := whole()
	want.Media[1].Codecs[0].Feedback = []string{"a", "b", "c", "d", "e"}
	s := laid(want)
	other, _, _ := desc.Read(s)
	n := 0
	eachList(&want, func(path string, _ reflect.Value) {
		d, _, _ := desc.Read(s)
		eachList(&d, func(p string, list reflect.Value) {
			if p != path {
				return
			}
			n++
			saved := reflect.AppendSlice(reflect.MakeSlice(list.Type(), 0, 0), list)
			room := list.Slice(0, list.Cap())
			for i := range room.Len() {
				room.Index(i).Set(filled(list.Type().Elem()))
			}
			list.Set(saved)
		})
		if !same(d, want) || !same(other, want) {
			t.Errorf("%s is shared: %s", path, short(d))
		}
	})
	if n < 10 {
		t.Error("only", n)
	}
	reads(t, "as it was", s, want)
}
