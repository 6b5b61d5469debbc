package attr_test

import (
	"reflect"
	"slices"
	"strconv"
	"strings"
	"testing"

	"rostrum/api"
	"rostrum/attr"
	"rostrum/sdp"
)

// with is p with another list of attributes.
func with(p sdp.Part, attrs []sdp.Attr) sdp.Part {
	p.Attrs = attrs
	return p
}

// valued is p with another value of its attribute at i.
func valued(p sdp.Part, i int, value string) sdp.Part {
	p.Attrs = slices.Clone(p.Attrs)
	p.Attrs[i].Value = value
	return p
}

// parts are parts of each kind.
func parts() []sdp.Part {
	var list []sdp.Part
	for _, m := range all() {
		list = append(list, laid(m))
	}
	return list
}

// at is the place of the first attribute of that name and value's beginning.
func at(p sdp.Part, name, begin string) int {
	return slices.IndexFunc(p.Attrs, func(a sdp.Attr) bool { return a.Name == name && strings.HasPrefix(a.Value, begin) })
}

func TestReadExamples(t *testing.T) {
	p := part("video 9 RTP/SAVPF 96", sdp.Attr{Name: "mid", Value: "v"}, sdp.Attr{Name: "sendrecv"}, sdp.Attr{Name: "rtpmap", Value: "96 VP8/90000"})
	reads(t, "the chapter's", p, api.Media{Kind: api.Video, Port: 9, Mid: "v", Direction: 3, Codecs: []api.Codec{{Type: 96, Name: "VP8", Clock: 90000, Channels: 1}}})
	wrong(t, "one channel", valued(p, 2, "96 VP8/90000/1"))
	wrong(t, "nothing", sdp.Part{})
	wrong(t, "nothing but its line", sdp.Part{Line: "video 9 RTP/SAVPF 96"})
}

// Attributes whose names aren't known say nothing, wherever they stand, whatever they are, and however many.
func TestReadOfUnknown(t *testing.T) {
	names := []string{"", "MID", "Mid", "midd", "mi", " mid", "mid ", "mid:", "rtcp", "rtcp-mux", "rtcp_fb", "setup", "ssrc-group", "fingerprint", "candidate", "SendRecv", "sendRecv", "send", "recv", "sctp", "sctpmap", "max-message-size", "extmap-allow-mixed", "crypto2", "rids", "msid", "é", "\x00", strings.Repeat("n", 1000)}
	values := []string{"", "x", "v-1", "96 VP8/90000", "\x00\xff", "\r\n", strings.Repeat("v", 1000)}
	for _, m := range append(all(), most(api.MostAttrs)) {
		p := laid(m)
		for i := range len(p.Attrs) + 1 {
			for _, n := range []int{1, 2, 100} {
				unknown := numbered(n, func(j int) sdp.Attr {
					return sdp.Attr{Name: names[(i+j)%len(names)], Value: values[j%len(values)]}
				})
				reads(t, "unknown ones at "+strconv.Itoa(i), with(p, slices.Insert(slices.Clone(p.Attrs), i, unknown...)), m)
			}
		}
		for _, n := range names {
			for _, v := range values {
				reads(t, "unknown "+n, with(p, slices.Insert(slices.Clone(p.Attrs), 1, sdp.Attr{Name: n, Value: v})), m)
			}
		}
		var between []sdp.Attr
		for _, a := range p.Attrs {
			between = append(between, slices.Repeat([]sdp.Attr{{Name: "x", Value: a.Value}}, 3000)...)
			between = append(between, a)
		}
		reads(t, "very many", with(p, between), m)
	}
}

// What is left out, doubled or changed about makes another Media's part, or none's: the grammar judges which.
func TestReadOfEditedLists(t *testing.T) {
	for _, m := range append(all(), most(api.MostAttrs), most(api.MostAttrs-1)) {
		p := laid(m)
		for i, a := range p.Attrs {
			what := a.Name + " " + a.Value
			judged(t, what+" left out", with(p, slices.Delete(slices.Clone(p.Attrs), i, i+1)))
			judged(t, what+" doubled", with(p, slices.Insert(slices.Clone(p.Attrs), i, a)))
			for j := range p.Attrs {
				swapped := slices.Clone(p.Attrs)
				swapped[i], swapped[j] = swapped[j], swapped[i]
				judged(t, what+" changed about", with(p, swapped))
				moved := slices.Delete(slices.Clone(p.Attrs), i, i+1)
				judged(t, what+" moved", with(p, slices.Insert(moved, min(j, len(moved)), a)))
				judged(t, what+" put in", with(p, slices.Insert(slices.Clone(p.Attrs), j, a)))
				taken := slices.Clone(p.Attrs)
				taken[j] = a
				judged(t, what+" in another's place", with(p, taken))
			}
			for _, name := range knownNames {
				renamed := slices.Clone(p.Attrs)
				renamed[i].Name = name
				judged(t, what+" by another name", with(p, renamed))
				judged(t, "more: "+name, with(p, slices.Insert(slices.Clone(p.Attrs), i, sdp.Attr{Name: name})))
			}
			unknown := slices.Clone(p.Attrs)
			unknown[i].Name = strings.ToUpper(a.Name)
			judged(t, what+" unknown", with(p, unknown))
		}
	}
}

// The same, told one by one.
func TestReadOfMissing(t *testing.T) {
	p := laid(video())
	mayMiss := map[string]bool{"fmtp": true, "rtcp-fb": true, "extmap": true, "ssrc": true, "crypto": true}
	mayDouble := map[string]bool{"rtcp-fb": true}
	for i, a := range p.Attrs {
		_, e := attr.Read(with(p, slices.Delete(slices.Clone(p.Attrs), i, i+1)))
		if (e == api.OK) != mayMiss[a.Name] {
			t.Errorf("%s %s left out: %v", a.Name, a.Value, e)
		}
		_, e = attr.Read(with(p, slices.Insert(slices.Clone(p.Attrs), i, a)))
		if (e == api.OK) != mayDouble[a.Name] {
			t.Errorf("%s %s doubled: %v", a.Name, a.Value, e)
		}
		if i+1 == len(p.Attrs) {
			continue
		}
		swapped := slices.Clone(p.Attrs)
		swapped[i], swapped[i+1] = swapped[i+1], swapped[i]
		_, e = attr.Read(with(p, swapped))
		alike := a.Name == p.Attrs[i+1].Name && a.Name != "rid"
		if (e == api.OK) != alike {
			t.Errorf("%s %s changed with the next: %v", a.Name, a.Value, e)
		}
	}
	for _, p := range []sdp.Part{laid(audio()), laid(data())} {
		for i, a := range p.Attrs {
			wrong(t, a.Name+" left out", with(p, slices.Delete(slices.Clone(p.Attrs), i, i+1)))
			wrong(t, a.Name+" doubled", with(p, slices.Insert(slices.Clone(p.Attrs), i, a)))
			if i > 0 {
				swapped := slices.Clone(p.Attrs)
				swapped[i], swapped[i-1] = swapped[i-1], swapped[i]
				wrong(t, a.Name+" changed about", with(p, swapped))
			}
		}
	}
}

// Each edit of one byte of a value is judged as the grammar does.
func TestReadOfEditedValues(t *testing.T) {
	pieces := []string{" ", "  ", "/", ";", ":", "=", "+", "-", "_", ",", ".", "0", "1", "2", "9", "00", "a", "A", "z", "send", "recv", "~", "\x1f", "\x7f", "\xff", "é", "\n", "\r"}
	for _, p := range parts() {
		edits := func(s string, put func(string) sdp.Part) {
			t.Helper()
			for i := range len(s) + 1 {
				for _, x := range pieces {
					judged(t, s, put(s[:i]+x+s[i:]))
				}
				if i == len(s) {
					break
				}
				judged(t, s, put(s[:i]+s[i+1:]))
				judged(t, s, put(s[:i]))
				judged(t, s, put(s[i:]))
				for _, x := range pieces {
					judged(t, s, put(s[:i]+x+s[i+1:]))
				}
			}
		}
		edits(p.Line, func(s string) sdp.Part { q := p; q.Line = s; return q })
		edits(p.Conn, func(s string) sdp.Part { q := p; q.Conn = s; return q })
		for i, a := range p.Attrs {
			edits(a.Value, func(s string) sdp.Part { return valued(p, i, s) })
		}
	}
}

// Wrong texts of numbers, wherever a number stands.
func TestReadOfNumbers(t *testing.T) {
	v, d := laid(video()), laid(data())
	bad := []string{"", "+N", "-N", "0N", "00N", " N", "N ", "\tN", "N\n", "Nx", "xN", "N.", "N.0", "N,", "N_0", "Ne0", "0xN", "0bN", "0oN", "N/", "4294967296N", "18446744073709551616", "9223372036854775808", "99999999999999999999999999", "-", "+", "x", "N\x00", "٣", "３"}
	for _, place := range []struct {
		p            sdp.Part
		name, before string
		number       string
		behind       string
	}{
		{v, "rtpmap", "", "96", " VP8/90000"},
		{v, "rtpmap", "96 VP8/", "90000", ""},
		{v, "rtpmap", "0 x/", "1", "/2"},
		{v, "rtpmap", "0 x/1/", "2", ""},
		{v, "fmtp", "", "0", " a/b:c"},
		{v, "rtcp-fb", "", "96", " nack"},
		{v, "extmap", "", "3", " urn:ietf:params:rtp-hdrext:sdes:mid"},
		{v, "ssrc", "", "4294967295", ""},
		{v, "ssrc", "", "0", ""},
		{v, "crypto", "", "1", " AES_CM_128_HMAC_SHA1_80 inline:+9axjGdCHfjTrolkPxr10KuGYTwX8s2og145FO/K"},
		{d, "sctp-port", "", "5000", ""},
	} {
		i := at(place.p, place.name, place.before+place.number+place.behind)
		if i < 0 || place.p.Attrs[i].Value != place.before+place.number+place.behind {
			t.Fatal(place)
		}
		for _, b := range bad {
			n := strings.ReplaceAll(b, "N", place.number)
			wrong(t, place.name, valued(place.p, i, place.before+n+place.behind))
		}
	}
	for _, line := range []string{"video N RTP/SAVPF 96 102 0", "video 9 RTP/SAVPF N 102 0", "video 9 RTP/SAVPF 96 102 N"} {
		for _, b := range bad {
			if b == "Ne0" || strings.HasPrefix(b, "N ") {
				continue
			}
			for _, number := range []string{"0", "9", "96"} {
				p := v
				p.Line = strings.Replace(line, "N", strings.ReplaceAll(b, "N", number), 1)
				wrong(t, "line", p)
			}
		}
	}
}

func TestReadOfChannels(t *testing.T) {
	p := laid(video())
	i := at(p, "rtpmap", "96")
	for _, more := range []string{"/1", "/3", "/", "/02", "/2/", "/2/2", "/2 ", "/ 2", " ", " /2", "//2", "/0", "/-2", "/+2", "/22", "/x"} {
		wrong(t, more, valued(p, i, "96 VP8/90000"+more))
	}
	m := video()
	m.Codecs[0].Channels = 2
	reads(t, "/2", valued(p, i, "96 VP8/90000/2"), m)
}

// A value where there is none to be, and none where there is one to be.
func TestReadOfNoValues(t *testing.T) {
	for _, p := range parts() {
		for i, a := range p.Attrs {
			if a.Value != "" {
				wrong(t, a.Name+" without a value", valued(p, i, ""))
				continue
			}
			for _, v := range []string{" ", "x", "0", a.Name} {
				wrong(t, a.Name+" with a value", valued(p, i, v))
			}
		}
	}
}

func TestReadOfLines(t *testing.T) {
	p := laid(video())
	for _, line := range []string{
		"", " ", "video", "video 9", "video 9 ", "video 9 RTP/SAVPF", "video 9 RTP/SAVPF ", "video 9 RTP/SAVPF 96", "video 9 RTP/SAVPF 96 102",
		"video 9 RTP/SAVPF 96 0 102", "video 9 RTP/SAVPF 102 96 0", "video 9 RTP/SAVPF 96 102 0 0", "video 9 RTP/SAVPF 96 102 0 1", "video 9 RTP/SAVPF 96 102 1",
		"video 9 RTP/SAVPF 96 102 0 ", " video 9 RTP/SAVPF 96 102 0", "video  9 RTP/SAVPF 96 102 0", "video 9  RTP/SAVPF 96 102 0", "video 9 RTP/SAVPF  96 102 0", "video 9 RTP/SAVPF 96  102 0",
		"video 9 RTP/SAVP 96 102 0", "video 9 RTP/AVPF 96 102 0", "video 9 rtp/savpf 96 102 0", "video 9 UDP/TLS/RTP/SAVPF 96 102 0", "video 9 UDP/SCTP webrtc-datachannel", "video 9 UDP/SCTP 96 102 0",
		"video 1 RTP/SAVPF 96 102 0", "video 8 RTP/SAVPF 96 102 0", "video 10 RTP/SAVPF 96 102 0", "video 99 RTP/SAVPF 96 102 0", "video 9/1 RTP/SAVPF 96 102 0", "video -9 RTP/SAVPF 96 102 0", "video 00 RTP/SAVPF 96 102 0", "video x RTP/SAVPF 96 102 0",
		"Video 9 RTP/SAVPF 96 102 0", "VIDEO 9 RTP/SAVPF 96 102 0", "text 9 RTP/SAVPF 96 102 0", "vide 9 RTP/SAVPF 96 102 0", " 9 RTP/SAVPF 96 102 0", "9 RTP/SAVPF 96 102 0",
		"application 9 RTP/SAVPF 96 102 0", "application 9 UDP/SCTP webrtc-datachannel", "video\t9 RTP/SAVPF 96 102 0", "video 9 RTP/SAVPF 96\t102 0",
	} {
		q := p
		q.Line = line
		wrong(t, line, q)
	}
	m := video()
	m.Kind, m.Port = api.Audio, 0
	p.Line = "audio 0 RTP/SAVPF 96 102 0"
	reads(t, p.Line, p, m)
	p = laid(data())
	for _, line := range []string{
		"application 9", "application 9 UDP/SCTP", "application 9 UDP/SCTP ", "application 9 UDP/SCTP webrtc-datachannel ", "application 9 UDP/SCTP webrtc-datachannel 5000", "application 9 UDP/SCTP webrtc-datachanne", "application 9 UDP/SCTP WebRTC-DataChannel",
		"application 9 DTLS/SCTP webrtc-datachannel", "application 9 DTLS/SCTP 5000", "application 9 UDP/DTLS/SCTP webrtc-datachannel", "application 9 RTP/SAVPF", "application 9  UDP/SCTP webrtc-datachannel", "application 1 UDP/SCTP webrtc-datachannel", "audio 9 UDP/SCTP webrtc-datachannel", "video 9 UDP/SCTP webrtc-datachannel", "data 9 UDP/SCTP webrtc-datachannel",
	} {
		q := p
		q.Line = line
		wrong(t, line, q)
	}
}

func TestReadOfConns(t *testing.T) {
	for _, p := range parts() {
		for _, conn := range []string{"", " ", "IN IP4 0.0.0.1", "IN IP4 127.0.0.1", "IN IP6 ::", "IN IP4 0.0.0.0 ", " IN IP4 0.0.0.0", "IN IP4 0.0.0.0/1", "in ip4 0.0.0.0", "IN  IP4 0.0.0.0", "0.0.0.0"} {
			p.Conn = conn
			wrong(t, conn, p)
		}
	}
}

func TestReadOfKeys(t *testing.T) {
	p := laid(video())
	i := at(p, "crypto", "")
	const before, letters = "1 AES_CM_128_HMAC_SHA1_80 inline:", "+9axjGdCHfjTrolkPxr10KuGYTwX8s2og145FO/K"
	for n := range 81 {
		s := (letters + letters + letters)[:n]
		if n == 40 {
			reads(t, s, valued(p, i, before+s), video())
		} else {
			wrong(t, s, valued(p, i, before+s))
		}
	}
	for c := range 256 {
		for _, j := range []int{0, 1, 2, 3, 19, 20, 39} {
			judged(t, "key", valued(p, i, before+letters[:j]+string([]byte{byte(c)})+letters[j+1:]))
		}
	}
	for _, s := range []string{letters[:39] + "=", letters[:38] + "==", letters + "=", letters + "|2^31", strings.ReplaceAll(letters, "+", "-"), letters[:39], letters + "A", letters[:38] + "é", letters + " "} {
		wrong(t, s, valued(p, i, before+s))
	}
	for _, s := range []string{"1 AES_CM_128_HMAC_SHA1_32 inline:", "1 AES_CM_128_HMAC_SHA1_80 ", "1 AES_CM_128_HMAC_SHA1_80 inline ", "1 AES_CM_128_HMAC_SHA1_80 INLINE:", "1 AES_CM_128_HMAC_SHA1_80 inline:inline:", "1 aes_cm_128_hmac_sha1_80 inline:", "1 inline:", "AES_CM_128_HMAC_SHA1_80 inline:", "1  AES_CM_128_HMAC_SHA1_80 inline:", "10 AES_CM_128_HMAC_SHA1_80 inline:", "0 AES_CM_128_HMAC_SHA1_80 inline:", ""} {
		wrong(t, s, valued(p, i, s+letters))
	}
}

func TestReadOfRids(t *testing.T) {
	p := laid(video())
	first, last := at(p, "rid", "q"), at(p, "simulcast", "")
	for _, v := range []string{"q recv", "q", "q ", "q send ", "q  send", "q sendrecv", "q SEND", "Q send", "qq send", " send", "send q", "h send", "q;h send"} {
		wrong(t, v, valued(p, first, v))
	}
	for _, v := range []string{"recv q;h;f", "send q;h", "send q;f;h", "send q;h;f;x", "send q,h,f", "send q;~h;f", "send q;h;f;", "send ;q;h;f", "send q; h;f", "send q;h;f recv x", "send", "send ", "q;h;f", "q;h;f send", "send  q;h;f"} {
		wrong(t, v, valued(p, last, v))
	}
	m := video()
	m.Sending = false
	for i := first; i < last; i++ {
		p = valued(p, i, strings.ReplaceAll(p.Attrs[i].Value, "send", "recv"))
	}
	wrong(t, "simulcast sends", p)
	reads(t, "all receive", valued(p, last, "recv q;h;f"), m)
}

// What no reader finds a place for.
func TestReadOfStrays(t *testing.T) {
	for _, m := range all() {
		p := laid(m)
		for _, a := range []sdp.Attr{{Name: "fmtp", Value: "96 x"}, {Name: "rtcp-fb", Value: "96 nack"}, {Name: "fmtp"}, {Name: "rtcp-fb"}} {
			for i := range 3 {
				wrong(t, a.Name, with(p, slices.Insert(slices.Clone(p.Attrs), i, a)))
			}
			wrong(t, a.Name+" alone", with(p, []sdp.Attr{a}))
		}
	}
	d, v := laid(data()), laid(video())
	for _, a := range v.Attrs[2:] {
		wrong(t, "data with "+a.Name, with(d, append(slices.Clone(d.Attrs), a)))
		wrong(t, "data with "+a.Name, with(d, slices.Insert(slices.Clone(d.Attrs), 2, a)))
	}
	for i := range len(v.Attrs) + 1 {
		wrong(t, "video with an SCTP port", with(v, slices.Insert(slices.Clone(v.Attrs), i, d.Attrs[2])))
		wrong(t, "video with no SCTP port", with(v, slices.Insert(slices.Clone(v.Attrs), i, sdp.Attr{Name: "sctp-port", Value: "0"})))
	}
}

func TestReadOfTooMany(t *testing.T) {
	for _, a := range laid(video()).Attrs {
		for _, n := range []int{api.MostAttrs, api.MostAttrs + 1, 1 << 18} {
			wrong(t, a.Name, with(laid(audio()), slices.Repeat([]sdp.Attr{a}, n)))
		}
	}
	p := laid(most(api.MostAttrs))
	for i := range len(p.Attrs) + 1 {
		for _, a := range []sdp.Attr{{Name: "ssrc", Value: "5"}, {Name: "rtcp-fb", Value: "0 ack"}, {Name: "mid", Value: "v-1"}} {
			wrong(t, "one more", with(p, slices.Insert(slices.Clone(p.Attrs), i, a)))
		}
	}
	long := strings.Repeat("9", 1<<20)
	for i := range p.Attrs {
		wrong(t, "long", valued(p, i, p.Attrs[i].Value+long))
	}
	p.Line += long
	wrong(t, "long", p)
}

// What is handed in is left as it is, its spare room too; no two lists of an answer share memory, nor do two answers.
func TestReadAnswersNewMemory(t *testing.T) {
	m := video()
	m.Codecs[2].Feedback = numbered(8, rid)
	spare := sdp.Attr{Name: "ssrc", Value: "5"}
	attrs, whole := roomy(laid(m).Attrs, spare)
	was := slices.Clone(whole)
	p := with(laid(m), attrs)
	x, _ := attr.Read(p)
	y, _ := attr.Read(p)
	for i := range x.Codecs {
		spoil(x.Codecs[i].Feedback, "spoilt")
		for j := range i {
			x.Codecs[j].Feedback = m.Codecs[j].Feedback
		}
		x.Codecs[i].Feedback = m.Codecs[i].Feedback
		if !same(x, m) {
			t.Errorf("Feedback %d is shared: %s", i, short(x))
		}
	}
	spoil(x.Codecs, api.Codec{Name: "spoilt"})
	spoil(x.Exts, api.Ext{URI: "spoilt"})
	spoil(x.Sources, 1)
	spoil(x.Crypto, api.Crypto{})
	if !slices.Equal(x.Rids, m.Rids) {
		t.Errorf("Rids are shared: %s", short(x))
	}
	spoil(x.Rids, "spoilt")
	if !same(y, m) || !reflect.DeepEqual(whole, was) {
		t.Errorf("shared: %s %s", short(y), short(whole))
	}
	reads(t, "again", p, m)
}

// Whatever is good and not too much is written and read as it was.
func TestReadUndoesWrite(t *testing.T) {
	seed := uint32(1)
	pick := func(n int) int {
		seed = seed*1664525 + 1013904223
		return int(seed>>8) % n
	}
	said := func(most int) string {
		s := ""
		for range 1 + pick(most) {
			s += string(rune('!' + pick(94)))
		}
		return s
	}
	written := 0
	for range 3000 {
		m := api.Media{Kind: 1 + pick(3), Port: 9 * pick(2), Mid: "m" + strconv.Itoa(pick(1000)), Direction: pick(4)}
		if m.Kind == api.Data {
			m.SctpPort = 1 + pick(65535)
		} else {
			for i := range 1 + pick(api.MostCodecs) {
				c := api.Codec{Type: 8*i + pick(8), Name: "n" + strconv.Itoa(pick(9)), Clock: 1 + pick(1000000), Channels: 1 + pick(2)}
				if pick(3) == 0 {
					c.Format = said(50) + " " + said(49)
				}
				c.Feedback = numbered(pick(4), func(int) string { return said(100) })
				m.Codecs = append(m.Codecs, c)
			}
			m.Exts = numbered(pick(api.MostExts+1), func(i int) api.Ext { return api.Ext{ID: 14 - i, URI: said(100)} })
			m.Rids = numbered(pick(api.MostRids+1), rid)
			m.Sending = len(m.Rids) > 0 && pick(2) == 0
			m.Sources = numbered(pick(api.MostSources+1), func(i int) uint32 { return uint32(i)<<28 + uint32(pick(1<<20)) })
			m.Crypto = numbered(pick(2), func(int) api.Crypto {
				c := api.Crypto{Tag: 1 + pick(9)}
				for i := range c.Key {
					c.Key[i] = byte(pick(256))
				}
				return c
			})
		}
		p := laid(m)
		if len(p.Attrs) > api.MostAttrs {
			unwritten(t, "too many", m)
			wrong(t, "too many", p)
			continue
		}
		written++
		right(t, "any", m, p)
		i, j := pick(len(p.Attrs)), pick(len(p.Attrs))
		swapped := slices.Clone(p.Attrs)
		swapped[i], swapped[j] = swapped[j], swapped[i]
		judged(t, "any, changed about", with(p, swapped))
	}
	if written < 500 {
		t.Error(written)
	}
}
