package sdp_test

import (
	"slices"
	"strings"
	"testing"

	"rostrum/api"
	"rostrum/sdp"
)

func TestParseExamples(t *testing.T) {
	reads(t, head, plain())
	reads(t, full, fullSession())
	wrong(t, "v=0\r\no=x\r\ns=-\r\n", 4, api.ErrForm)
	wrong(t, head+"a=b:\r\n", 5, api.ErrForm)
}

// A text is right up to each of its lines' ends behind the head, and wrong wherever else it ends.
func TestParseOfWhatEndsEarly(t *testing.T) {
	for n := range len(full) {
		s := full[:n]
		lines := strings.Count(s, "\r\n")
		if strings.HasSuffix(s, "\r\n") && lines >= 4 {
			right(t, s)
		} else {
			wrong(t, s, lines+1, api.ErrForm)
		}
	}
}

func TestParseOfHeads(t *testing.T) {
	lines := parted(head)
	for i, line := range lines {
		missing := slices.Delete(slices.Clone(lines), i, i+1)
		wrong(t, joined(missing...), i+1, api.ErrForm)
		wrong(t, joined(missing...)+"m=x\r\n", i+1, api.ErrForm)
		doubled := slices.Insert(slices.Clone(lines), i, line)
		wrong(t, joined(doubled...), i+2, api.ErrForm)
		for j := range lines {
			moved := slices.Insert(slices.Clone(missing), j, line)
			if i == j {
				right(t, joined(moved...))
			} else {
				wrong(t, joined(moved...), min(i, j)+1, api.ErrForm)
			}
		}
		for _, more := range []string{"a=b", "m=x", "c=x", "", "x=y", " "} {
			wrong(t, joined(slices.Insert(slices.Clone(lines), i, more)...), i+1, api.ErrForm)
		}
		wrong(t, head+joined(line), 5, api.ErrForm)
		wrong(t, head+"a=b\r\n"+joined(line), 6, api.ErrForm)
		wrong(t, head+"m=x\r\n"+joined(line), 6, api.ErrForm)
	}
}

func TestParseOfVersions(t *testing.T) {
	for _, line := range []string{"", "v", "v=", "v=1", "v=00", "v=0 ", "v= 0", "V=0", "v:0", " v=0", "v=0\n", "v=0\r", "o=0", "v0", "=0", "\ufeffv=0"} {
		wrong(t, joined(line)+head[5:], 1, api.ErrForm)
	}
}

func TestParseOfLinesEnds(t *testing.T) {
	lines := parted(full)
	for i := range lines {
		before, line, behind := "", lines[i], joined(lines[i+1:]...)
		if i > 0 {
			before = joined(lines[:i]...)
		}
		if i+1 == len(lines) {
			behind = ""
		}
		for _, end := range []string{"", "\n", "\r", "\n\r", "\r\r\n", "\n\r\n", " \n", "\r \n", "\x00\r\n", "\u0085", "\u2028"} {
			if end == "" && i+1 < len(lines) && i != 0 {
				continue // two lines that are one may be a right one: see below
			}
			wrong(t, before+line+end+behind, i+1, api.ErrForm)
		}
		wrong(t, before+line+"\r\n\r\n"+behind, i+2, api.ErrForm)
		wrong(t, before+"\r\n"+line+"\r\n"+behind, i+1, api.ErrForm)
		wrong(t, before+"\n"+line+"\r\n"+behind, i+1, api.ErrForm)
	}
	wrong(t, "v=0\r\no=xs=-\r\nt=0 0\r\n", 3, api.ErrForm)
	right(t, "v=0\r\no=xs=-\r\ns=-t=0\r\nt=0 0a=b\r\na=x:a=y\r\nm=xc=y\r\n")
	wrong(t, head+"a=flagm=x\r\n", 5, api.ErrForm)
}

func TestParseOfWhatStandsBehind(t *testing.T) {
	for _, s := range []string{head, head + "a=b\r\n", head + "a=b:c\r\n", head + "m=x\r\n", head + "m=x\r\nc=y\r\n", full} {
		behind := strings.Count(s, "\r\n") + 1
		for _, more := range []string{"\r", "\n", " ", "x", "\x00", "a=b", "a=b:c", "a=b\r", "a=b\n", "a=b\n\r", "m=x", "m=x\n", "c=x", "c=x\r", "v=0", "\r\n", "\n\r", " \r\n", "\x00\r\n", "a\r\n", "a=\r\n", "=\r\n", "m\r\n", "m=\r\n", "c=\r\n", "b=x\r\n", "i=x\r\n", "k=x\r\n", "A=b\r\n", "M=x\r\n", " a=b\r\n", "a =b\r\n", "a:b\r\n", "aa=b\r\n", head} {
			wrong(t, s+more, behind, api.ErrForm)
			if ended(more) {
				wrong(t, s+more+"m=z\r\n", behind, api.ErrForm)
			}
		}
	}
}

// places are texts with a value left out, ahead of it and behind; the value's line is at.
var places = []struct {
	before, behind string
	at             int
}{
	{"v=0\r\no=", "\r\ns=-\r\nt=0 0\r\n", 2},
	{"v=0\r\no=x\r\ns=", "\r\nt=0 0\r\n", 3},
	{"v=0\r\no=x\r\ns=-\r\nt=", "\r\n", 4},
	{head + "a=b:", "\r\na=c\r\nm=x\r\n", 5},
	{head + "m=", "\r\nc=y\r\na=c\r\n", 5},
	{head + "m=x\r\nc=", "\r\na=c\r\n", 6},
	{head + "m=x\r\na=b:", "\r\nm=y\r\n", 6},
	{head + "m=x\r\nc=y\r\na=b:", "\r\n", 7},
	{head + "m=x\r\nm=", "\r\n", 6},
}

func TestParseOfValues(t *testing.T) {
	for _, p := range places {
		for n := range 2*api.MostLine + 100 {
			s := p.before + strings.Repeat("~", n) + p.behind
			if n >= 1 && n <= api.MostLine {
				right(t, s)
			} else {
				wrong(t, s, p.at, api.ErrForm)
			}
		}
		for c := range 256 {
			x := string([]byte{byte(c)})
			for _, v := range []string{x, x + "ab", "a" + x + "b", "ab" + x} {
				if c >= 32 && c <= 126 {
					right(t, p.before+v+p.behind)
				} else {
					wrong(t, p.before+v+p.behind, p.at, api.ErrForm)
				}
			}
		}
		for _, v := range []string{"é", "a é", "\u00a0", "日本", "\u2028"} {
			wrong(t, p.before+v+p.behind, p.at, api.ErrForm)
		}
	}
}

func TestParseOfAttributes(t *testing.T) {
	const letters = "-_0123456789abcdefghijklmnopqrstuvwxyzABCDEFGHIJKLMNOPQRSTUVWXYZ"
	names := []string{"a", "rtcp-fb", "-", "_", "0", strings.Repeat("n", 32)}
	noNames := []string{"", "a b", " a", "a ", "a.b", "a/b", "a=b", "é", "aé", strings.Repeat("n", 33), strings.Repeat("n", 200)}
	for c := range 256 {
		x := string([]byte{byte(c)})
		if strings.Contains(letters, x) {
			names = append(names, x, x+"ab", "a"+x+"b", "ab"+x)
		} else if x != ":" {
			noNames = append(noNames, x, x+"ab", "a"+x+"b", "ab"+x)
		}
	}
	for _, before := range []string{head, head + "m=x\r\n", head + "m=x\r\nc=y\r\n", full} {
		behind := strings.Count(before, "\r\n") + 1
		for _, n := range names {
			for _, v := range []string{"", "b", ":", "::", "b:c", ":b", "b:", " ", " b ", "=", "a=b", strings.Repeat(":", api.MostLine)} {
				attr(t, before, sdp.Attr{Name: n, Value: v})
			}
			wrong(t, before+"a="+n+":\r\n", behind, api.ErrForm)
			wrong(t, before+"a="+n+":"+strings.Repeat(":", api.MostLine)+":\r\n", behind, api.ErrForm)
		}
		for _, n := range noNames {
			wrong(t, before+"a="+n+"\r\n", behind, api.ErrForm)
			wrong(t, before+"a="+n+":b\r\n", behind, api.ErrForm)
			wrong(t, before+"a="+n+":\r\n", behind, api.ErrForm)
		}
	}
}

// attr asks whether the attribute a behind before is read as it is.
func attr(t *testing.T, before string, a sdp.Attr) {
	t.Helper()
	line := "a=" + a.Name
	if a.Value != "" {
		line += ":" + a.Value
	}
	want, _, _ := sdp.Parse(before)
	if n := len(want.Parts); n > 0 {
		want.Parts[n-1].Attrs = append(want.Parts[n-1].Attrs, a)
	} else {
		want.Attrs = append(want.Attrs, a)
	}
	reads(t, before+joined(line), want)
}

func TestParseOfConns(t *testing.T) {
	wrong(t, head+"c=y\r\n", 5, api.ErrForm)
	wrong(t, head+"c=y\r\nm=x\r\n", 5, api.ErrForm)
	wrong(t, head+"a=b\r\nc=y\r\nm=x\r\n", 6, api.ErrForm)
	wrong(t, head+"m=x\r\nc=y\r\nc=y\r\n", 7, api.ErrForm)
	wrong(t, head+"m=x\r\nc=y\r\nc=z\r\na=b\r\n", 7, api.ErrForm)
	wrong(t, head+"m=x\r\nc=y\r\na=b\r\nc=y\r\n", 8, api.ErrForm)
	wrong(t, head+"m=x\r\na=b\r\nc=y\r\n", 7, api.ErrForm)
	wrong(t, head+"m=x\r\nc=y\r\nm=z\r\na=b\r\nc=y\r\n", 9, api.ErrForm)
	wrong(t, head+"m=x\r\nc=y\r\nm=z\r\nc=y\r\nc=y\r\n", 9, api.ErrForm)
	reads(t, head+"a=b\r\nm=x\r\nc=y\r\nm=z\r\nc=w\r\na=b\r\nm=u\r\n", sdp.Session{
		Origin: "x", Name: "-", Time: "0 0", Attrs: []sdp.Attr{{Name: "b"}},
		Parts: []sdp.Part{{Line: "x", Conn: "y"}, {Line: "z", Conn: "w", Attrs: []sdp.Attr{{Name: "b"}}}, {Line: "u"}},
	})
}

// ended tells whether what stands behind s begins a line of its own.
func ended(s string) bool {
	return strings.HasSuffix(s, "\r\n")
}

// What stands behind a line that is refused: the answer must not hang on it.
var later = []string{"", "a=b\r\n", "m=x\r\n", "c=y\r\n", "\r\n", "a=\r\n", "x", "m=x"}

// What is wrong in the place of one more attribute, and of one more part.
var (
	wrongAttrs = []string{"a=\r\n", "a=b:\r\n", "a=a b\r\n", "a=b", "a=b\n", "A=b\r\n", "\r\n", "a=b:\x1f\r\n", "a=" + strings.Repeat("n", 33) + "\r\n", "a=b:" + strings.Repeat("v", api.MostLine+1) + "\r\n"}
	wrongParts = []string{"m=\r\n", "m=\x7f\r\n", "m=x", "m=x\n", "m\r\n", "M=x\r\n", "m=" + strings.Repeat("v", api.MostLine+1) + "\r\n"}
)

func TestParseOfTooManyAttributes(t *testing.T) {
	for _, before := range []string{head, head + "m=x\r\n", head + "m=x\r\nc=y\r\n", head + strings.Repeat("a=b\r\n", 64) + "m=x\r\n", head + strings.Repeat("m=x\r\n", api.MostParts)} {
		s := before + strings.Repeat("a=b\r\n", api.MostAttrs)
		most := strings.Count(s, "\r\n") + 1
		right(t, s)
		right(t, before+strings.Repeat("a=b\r\n", api.MostAttrs-1))
		for _, more := range later {
			wrong(t, s+"a=b\r\n"+more, most, api.ErrLarge)
			wrong(t, s+"a=b:c\r\n"+more, most, api.ErrLarge)
			for _, line := range wrongAttrs {
				if more == "" || ended(line) {
					wrong(t, s+line+more, most, api.ErrForm)
				}
			}
			wrong(t, s+"c=y\r\n"+more, most, api.ErrForm)
		}
	}
	// Each list has room of its own.
	all := strings.Repeat("a=b\r\n", api.MostAttrs)
	right(t, head+all+strings.Repeat("m=x\r\n"+all, 3))
	wrong(t, "v=0\r\no=\r\ns=-\r\nt=0 0\r\n"+all+all, 2, api.ErrForm)
}

func TestParseOfTooManyParts(t *testing.T) {
	for _, part := range []string{"m=x\r\n", "m=x\r\nc=y\r\n", "m=x\r\na=b\r\na=b:c\r\n"} {
		s := head + strings.Repeat(part, api.MostParts)
		most := strings.Count(s, "\r\n") + 1
		right(t, s)
		right(t, head+strings.Repeat(part, api.MostParts-1))
		for _, more := range later {
			wrong(t, s+"m=x\r\n"+more, most, api.ErrLarge)
			for _, line := range wrongParts {
				if more == "" || ended(line) {
					wrong(t, s+line+more, most, api.ErrForm)
				}
			}
		}
	}
	all := strings.Repeat("m=x\r\n", api.MostParts)
	wrong(t, head+"a=\r\n"+all+all, 5, api.ErrForm)
	wrong(t, head+all+strings.Repeat("a=b\r\n", api.MostAttrs)+"m=x\r\n", 5+api.MostParts+api.MostAttrs, api.ErrLarge)
}

// long is a right text of n bytes, from head's beginning on.
func long(n int) string {
	var b strings.Builder
	b.WriteString(head)
	for b.Len() < n {
		left := n - b.Len() - len("a=l:\r\n")
		if left > 150 {
			left = max(140, min(150, left-100))
		}
		b.WriteString("a=l:" + strings.Repeat("v", left) + "\r\n")
	}
	return b.String()
}

func TestParseOfLongTexts(t *testing.T) {
	for _, n := range []int{api.MostText - 1, api.MostText} {
		s := long(n)
		if len(s) != n {
			t.Fatal(len(s))
		}
		right(t, s)
		wrong(t, s[:n-1], strings.Count(s, "\r\n"), api.ErrForm)
		wrong(t, "V"+s[1:], 1, api.ErrForm)
		wrong(t, s[:n-3]+"\x1f\r\n", strings.Count(s, "\r\n"), api.ErrForm)
	}
	wrong(t, strings.Repeat("x", api.MostText), 1, api.ErrForm)
	wrong(t, strings.Repeat("\r\n", api.MostText/2), 1, api.ErrForm)
	for _, n := range []int{api.MostText + 1, api.MostText + 2, 2 * api.MostText, 1 << 20} {
		wrong(t, strings.Repeat("x", n), 0, api.ErrLarge)
		wrong(t, strings.Repeat("\r\n", n), 0, api.ErrLarge)
		wrong(t, head+strings.Repeat("a=b:"+strings.Repeat("v", 96)+"\r\n", n/100), 0, api.ErrLarge)
	}
	wrong(t, long(api.MostText)+"x", 0, api.ErrLarge)
	wrong(t, long(api.MostText+1), 0, api.ErrLarge)
	wrong(t, head+strings.Repeat("m=x\r\n", api.MostText), 0, api.ErrLarge)
}

// Each edit of one byte, or of one line, is judged as the grammar does.
func TestParseOfEdits(t *testing.T) {
	pieces := []string{"\r", "\n", "\x00", "\x1f", " ", "~", "\x7f", "\xff", ":", "=", "a", "m", "c", "v", "0", "\r\n", "a=", "\r\na=b\r\n", "\r\nm=x\r\n"}
	for i := range len(full) {
		check(t, full[:i]+full[i+1:])
		for _, p := range pieces {
			check(t, full[:i]+p+full[i:])
			check(t, full[:i]+p+full[i+1:])
		}
	}
	lines := parted(full)
	for i := range lines {
		for j := range lines {
			swapped := slices.Clone(lines)
			swapped[i], swapped[j] = swapped[j], swapped[i]
			check(t, joined(swapped...))
			copied := slices.Clone(lines)
			copied[j] = copied[i]
			check(t, joined(copied...))
			check(t, joined(slices.Insert(slices.Clone(lines), j, lines[i])...))
			check(t, joined(slices.Delete(slices.Clone(lines), min(i, j), max(i, j))...))
		}
	}
}

func check(t *testing.T, s string) {
	t.Helper()
	if at := judged(s); at == 0 {
		right(t, s)
	} else {
		wrong(t, s, at, api.ErrForm)
	}
}

// No two lists of an answer share memory, spare room too, nor do two answers.
func TestParseAnswersNewMemory(t *testing.T) {
	x, _, _ := sdp.Parse(full)
	y, _, _ := sdp.Parse(full)
	spoil := func(list []sdp.Attr) {
		list = list[:cap(list)]
		for i := range list {
			list[i] = sdp.Attr{Name: "spoilt", Value: "spoilt"}
		}
	}
	spoil(x.Attrs)
	want := fullSession()
	for i := range x.Parts {
		if !same(sdp.Session{Parts: x.Parts[i:]}, sdp.Session{Parts: want.Parts[i:]}) {
			t.Errorf("part %d on: %v", i, x.Parts[i:])
		}
		spoil(x.Parts[i].Attrs)
	}
	parts := x.Parts[:cap(x.Parts)]
	for i := range parts {
		parts[i] = sdp.Part{Line: "spoilt"}
	}
	if !same(y, want) {
		t.Error(y)
	}
	reads(t, full, want)
}
