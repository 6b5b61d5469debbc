package attr_test

import (
	"strconv"
	"strings"
	"testing"

	"rostrum/api"
	"rostrum/attr"
)

const (
	letters   = "-_0123456789abcdefghijklmnopqrstuvwxyzABCDEFGHIJKLMNOPQRSTUVWXYZ"
	wrapRound = 1 << 32
)

func TestGoodExamples(t *testing.T) {
	for _, m := range all() {
		asks(t, "something of everything", m, true)
	}
	asks(t, "nothing", api.Media{}, false)
	example := api.Media{Kind: api.Video, Port: 9, Mid: "v", Direction: 3, Codecs: []api.Codec{{Type: 96, Name: "VP8", Clock: 90000, Channels: 1}}}
	asks(t, "the chapter's", example, true)
}

// numbers are the places of a Media where a number stands, and which may stand there.
var numbers = []struct {
	what string
	on   func() api.Media
	set  func(*api.Media, int)
	may  func(int) bool
}{
	{"Port", video, func(m *api.Media, n int) { m.Port = n }, func(n int) bool { return n == 0 || n == 9 }},
	{"audio's Port", audio, func(m *api.Media, n int) { m.Port = n }, func(n int) bool { return n == 0 || n == 9 }},
	{"data's Port", data, func(m *api.Media, n int) { m.Port = n }, func(n int) bool { return n == 0 || n == 9 }},
	{"Direction", video, func(m *api.Media, n int) { m.Direction = n }, func(n int) bool { return n >= 0 && n <= 3 }},
	{"data's Direction", data, func(m *api.Media, n int) { m.Direction = n }, func(n int) bool { return n >= 0 && n <= 3 }},
	{"Kind", video, func(m *api.Media, n int) { m.Kind = n }, func(n int) bool { return n == 1 || n == 2 }},
	{"audio's Kind", audio, func(m *api.Media, n int) { m.Kind = n }, func(n int) bool { return n == 1 || n == 2 }},
	{"data's Kind", data, func(m *api.Media, n int) { m.Kind = n }, func(n int) bool { return n == 3 }},
	{"first Type", video, func(m *api.Media, n int) { m.Codecs[0].Type = n }, func(n int) bool { return n > 0 && n <= 127 && n != 102 }},
	{"last Type", video, func(m *api.Media, n int) { m.Codecs[2].Type = n }, func(n int) bool { return n >= 0 && n <= 127 && n != 96 && n != 102 }},
	{"audio's Type", audio, func(m *api.Media, n int) { m.Codecs[0].Type = n }, func(n int) bool { return n >= 0 && n <= 127 }},
	{"first Clock", video, func(m *api.Media, n int) { m.Codecs[0].Clock = n }, func(n int) bool { return n >= 1 && n <= 1000000 }},
	{"last Clock", video, func(m *api.Media, n int) { m.Codecs[2].Clock = n }, func(n int) bool { return n >= 1 && n <= 1000000 }},
	{"first Channels", video, func(m *api.Media, n int) { m.Codecs[0].Channels = n }, func(n int) bool { return n == 1 || n == 2 }},
	{"audio's Channels", audio, func(m *api.Media, n int) { m.Codecs[0].Channels = n }, func(n int) bool { return n == 1 || n == 2 }},
	{"first ID", video, func(m *api.Media, n int) { m.Exts[0].ID = n }, func(n int) bool { return n >= 1 && n <= 13 }},
	{"last ID", video, func(m *api.Media, n int) { m.Exts[1].ID = n }, func(n int) bool { return n >= 1 && n <= 14 && n != 3 }},
	{"Tag", video, func(m *api.Media, n int) { m.Crypto[0].Tag = n }, func(n int) bool { return n >= 1 && n <= 9 }},
	{"SctpPort", data, func(m *api.Media, n int) { m.SctpPort = n }, func(n int) bool { return n >= 1 && n <= 65535 }},
	{"video's SctpPort", video, func(m *api.Media, n int) { m.SctpPort = n }, func(n int) bool { return n == 0 }},
	{"audio's SctpPort", audio, func(m *api.Media, n int) { m.SctpPort = n }, func(n int) bool { return n == 0 }},
}

func TestGoodNumbers(t *testing.T) {
	var list []int
	for n := -300; n <= 300; n++ {
		list = append(list, n)
	}
	for _, n := range []int{8000, 65534, 65535, 65536, 90000, 999999, 1000000, 1000001, -1000000, 1<<31 - 1, 1 << 31, 1<<63 - 1, -1 << 63} {
		list = append(list, n)
	}
	for _, n := range []int{0, 1, 2, 3, 9, 96, 5000} {
		list = append(list, n+wrapRound, n-wrapRound, n+1<<16, n+1<<8)
	}
	for _, f := range numbers {
		for _, n := range list {
			m := f.on()
			f.set(&m, n)
			asks(t, f.what+" "+strconv.Itoa(n), m, f.may(n))
		}
	}
}

// texts are the places of a Media where a text stands, how long it may be, and which bytes may stand in it, at its ends, and whether "" may.
var texts = []struct {
	what      string
	on        func() api.Media
	set       func(*api.Media, string)
	most      int
	may, ends string
	empty     bool
}{
	{"Mid", video, func(m *api.Media, s string) { m.Mid = s }, 16, letters, letters, false},
	{"audio's Mid", audio, func(m *api.Media, s string) { m.Mid = s }, 16, letters, letters, false},
	{"data's Mid", data, func(m *api.Media, s string) { m.Mid = s }, 16, letters, letters, false},
	{"first Name", video, func(m *api.Media, s string) { m.Codecs[0].Name = s }, 32, letters, letters, false},
	{"last Name", video, func(m *api.Media, s string) { m.Codecs[2].Name = s }, 32, letters, letters, false},
	{"first Format", video, func(m *api.Media, s string) { m.Codecs[0].Format = s }, 100, visible() + " ", visible(), true},
	{"last Format", video, func(m *api.Media, s string) { m.Codecs[2].Format = s }, 100, visible() + " ", visible(), true},
	{"audio's Format", audio, func(m *api.Media, s string) { m.Codecs[0].Format = s }, 100, visible() + " ", visible(), true},
	{"first Feedback", video, func(m *api.Media, s string) { m.Codecs[0].Feedback[0] = s }, 100, visible() + " ", visible(), false},
	{"last Feedback", video, func(m *api.Media, s string) { m.Codecs[0].Feedback[1] = s }, 100, visible() + " ", visible(), false},
	{"first URI", video, func(m *api.Media, s string) { m.Exts[0].URI = s }, 100, visible(), visible(), false},
	{"last URI", video, func(m *api.Media, s string) { m.Exts[1].URI = s }, 100, visible(), visible(), false},
	{"first Rid", video, func(m *api.Media, s string) { m.Rids[0] = s }, 8, letters, letters, false},
	{"last Rid", video, func(m *api.Media, s string) { m.Rids[2] = s }, 8, letters, letters, false},
}

// visible is all bytes from 33 to 126.
func visible() string {
	s := ""
	for c := '!'; c <= '~'; c++ {
		s += string(c)
	}
	return s
}

func TestGoodTexts(t *testing.T) {
	for _, f := range texts {
		with := func(s string, want bool) {
			t.Helper()
			m := f.on()
			f.set(&m, s)
			asks(t, f.what, m, want)
		}
		for n := range 2*f.most + 20 {
			with(strings.Repeat("z", n), n >= 1 && n <= f.most || n == 0 && f.empty)
		}
		with(strings.Repeat("z", 1<<20), false)
		for c := range 256 {
			x := string([]byte{byte(c)})
			with("z"+x+"9", strings.Contains(f.may, x))
			with(x+"9", strings.Contains(f.ends, x))
			with("z"+x, strings.Contains(f.ends, x))
			if c != 'q' && c != 'h' && c != 'f' || !strings.HasSuffix(f.what, "Rid") {
				with(x, strings.Contains(f.ends, x))
			}
		}
		for _, s := range []string{"é", "zé", "日本", "a\u00a0b", "a\r\nb", "a\nb", "  ", " z ", "z ", " z"} {
			with(s, false)
		}
	}
}

func TestGoodLists(t *testing.T) {
	for n := range 40 {
		what := strconv.Itoa(n)
		for _, on := range []func() api.Media{video, audio} {
			m := on()
			m.Codecs = numbered(n, codec)
			asks(t, "Codecs "+what, m, n >= 1 && n <= api.MostCodecs)
			m = on()
			m.Codecs[0].Feedback = numbered(n, feedback)
			asks(t, "Feedback "+what, m, n <= 8)
			m = on()
			m.Codecs[len(m.Codecs)-1].Feedback = numbered(n, feedback)
			asks(t, "last Feedback "+what, m, n <= 8)
			m = on()
			m.Exts = numbered(n, ext)
			asks(t, "Exts "+what, m, n <= api.MostExts)
			for _, sending := range []bool{false, true} {
				m = on()
				m.Rids, m.Sending = numbered(n, rid), sending
				asks(t, "Rids "+what, m, n <= api.MostRids && (n > 0 || !sending))
			}
			m = on()
			m.Sources = numbered(n, source)
			asks(t, "Sources "+what, m, n <= api.MostSources)
			m = on()
			m.Crypto = numbered(n, crypto)
			asks(t, "Crypto "+what, m, n <= 1)
		}
		m := data()
		m.Codecs = numbered(n, codec)
		asks(t, "data's Codecs "+what, m, n == 0)
		m = data()
		m.Exts = numbered(n, ext)
		asks(t, "data's Exts "+what, m, n == 0)
		m = data()
		m.Rids = numbered(n, rid)
		asks(t, "data's Rids "+what, m, n == 0)
		m = data()
		m.Sources = numbered(n, source)
		asks(t, "data's Sources "+what, m, n == 0)
		m = data()
		m.Crypto = numbered(n, crypto)
		asks(t, "data's Crypto "+what, m, n == 0)
	}
	m := data()
	m.Sending = true
	asks(t, "data's Sending", m, false)
	for lists := 1; lists < 1<<5; lists++ {
		n := func(bit int) int { return lists >> bit & 1 }
		m := data()
		m.Codecs, m.Exts, m.Rids = numbered(n(0), codec), numbered(n(1), ext), numbered(n(2), rid)
		m.Sources, m.Crypto = numbered(n(3), source), numbered(n(4), crypto)
		asks(t, "data's lists "+strconv.Itoa(lists), m, false)
	}
}

// Each two members of a list are made alike in what they must be unlike in; and in all else.
func TestGoodUnlike(t *testing.T) {
	whole := func() api.Media {
		m := audio()
		m.Codecs, m.Exts = numbered(api.MostCodecs, codec), numbered(api.MostExts, ext)
		m.Rids, m.Sources = numbered(api.MostRids, rid), numbered(api.MostSources, source)
		return m
	}
	asks(t, "whole", whole(), true)
	for i := range api.MostSources {
		for j := range i {
			what := strconv.Itoa(i) + " as " + strconv.Itoa(j)
			m := whole()
			m.Codecs[i].Type = m.Codecs[j].Type
			asks(t, "Types "+what, m, false)
			m = whole()
			m.Codecs[i] = m.Codecs[j]
			m.Codecs[i].Type = 127
			asks(t, "Codecs but for Types "+what, m, true)
			m = whole()
			m.Sources[i] = m.Sources[j]
			asks(t, "Sources "+what, m, false)
			if i < api.MostExts {
				m = whole()
				m.Exts[i].ID = m.Exts[j].ID
				asks(t, "IDs "+what, m, false)
				m = whole()
				m.Exts[i].URI = m.Exts[j].URI
				asks(t, "URIs "+what, m, true)
			}
			if i < api.MostRids {
				m = whole()
				m.Rids[i] = m.Rids[j]
				asks(t, "Rids "+what, m, false)
				m.Rids[i] = strings.ToUpper(m.Rids[j])
				asks(t, "Rids in great letters "+what, m, true)
			}
		}
	}
}

// The last of two members is wrong as the first is, and lists that are far too long end soon.
func TestGoodOfMany(t *testing.T) {
	const far = 1 << 20
	m := video()
	m.Codecs[2].Feedback = []string{"nack", "nack", ""}
	asks(t, "the last Feedback", m, false)
	for i, turn := range []func(*api.Media){
		func(m *api.Media) { m.Codecs = make([]api.Codec, far) },
		func(m *api.Media) { m.Codecs[1].Feedback = make([]string, far) },
		func(m *api.Media) { m.Exts = make([]api.Ext, far) },
		func(m *api.Media) { m.Rids = make([]string, far) },
		func(m *api.Media) { m.Sources = make([]uint32, far) },
		func(m *api.Media) { m.Crypto = make([]api.Crypto, far) },
	} {
		m := video()
		turn(&m)
		if attr.Good(m) {
			t.Error(i)
		}
		unwritten(t, strconv.Itoa(i), m)
	}
}
