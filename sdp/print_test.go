package sdp_test

import (
	"slices"
	"strconv"
	"strings"
	"testing"

	"rostrum/api"
	"rostrum/sdp"
)

// with is plain with attributes ahead of the parts, and with parts.
func with(attrs []sdp.Attr, parts ...sdp.Part) sdp.Session {
	x := plain()
	x.Attrs, x.Parts = attrs, parts
	return x
}

// badValues are none that may stand in a line; good ones stand beside them.
var (
	badValues  = []string{strings.Repeat("v", api.MostLine+1), strings.Repeat("v", 1<<20), "\x1f", "\x7f", "a\x1f", "\x7fa", "a\r\nb", "\r", "\n", "a\x00", "\t", "é", "\xff", "x\r\ns=y", "x\r\na=b"}
	goodValues = []string{" ", "~", "a", " a ", ":", "=", "a=b:c", strings.Repeat("v", api.MostLine)}
	badNames   = []string{"", "a b", "a:b", "a=b", ":", " ", "a.b", "é", "\xff", "a\r\n", "a\n", "\x00", strings.Repeat("n", 33), strings.Repeat("n", 1<<20)}
	goodNames  = []string{"a", "Z", "0", "9", "-", "_", "rtcp-fb", strings.Repeat("n", 32)}
)

// fields are descriptions with one value set each; whether it may be "" is in the second one.
var fields = []struct {
	what  string
	empty bool
	set   func(string) sdp.Session
}{
	{"Origin", false, func(v string) sdp.Session { x := fullSession(); x.Origin = v; return x }},
	{"Name", false, func(v string) sdp.Session { x := fullSession(); x.Name = v; return x }},
	{"Time", false, func(v string) sdp.Session { x := fullSession(); x.Time = v; return x }},
	{"first value", true, func(v string) sdp.Session { x := fullSession(); x.Attrs[0].Value = v; return x }},
	{"last value", true, func(v string) sdp.Session { x := fullSession(); x.Attrs[1].Value = v; return x }},
	{"first Line", false, func(v string) sdp.Session { x := fullSession(); x.Parts[0].Line = v; return x }},
	{"last Line", false, func(v string) sdp.Session { x := fullSession(); x.Parts[3].Line = v; return x }},
	{"first Conn", true, func(v string) sdp.Session { x := fullSession(); x.Parts[0].Conn = v; return x }},
	{"last Conn", true, func(v string) sdp.Session { x := fullSession(); x.Parts[3].Conn = v; return x }},
	{"part's first value", true, func(v string) sdp.Session { x := fullSession(); x.Parts[0].Attrs[0].Value = v; return x }},
	{"part's last value", true, func(v string) sdp.Session { x := fullSession(); x.Parts[2].Attrs[0].Value = v; return x }},
}

func TestPrintOfValues(t *testing.T) {
	for _, f := range fields {
		for _, v := range goodValues {
			printed(t, f.what, f.set(v))
		}
		for _, v := range badValues {
			textless(t, f.what+" "+short(v), f.set(v))
		}
		if f.empty {
			printed(t, f.what, f.set(""))
		} else {
			textless(t, f.what+" empty", f.set(""))
		}
		for c := range 256 {
			v := "a" + string([]byte{byte(c)}) + "b"
			if c >= 32 && c <= 126 {
				printed(t, f.what, f.set(v))
			} else {
				textless(t, f.what+" "+short(v), f.set(v))
			}
		}
	}
}

func TestPrintOfNames(t *testing.T) {
	for _, value := range []string{"", "b"} {
		for _, n := range goodNames {
			printed(t, n, with([]sdp.Attr{{Name: "a"}, {Name: n, Value: value}}))
			printed(t, n, with(nil, sdp.Part{Line: "x"}, sdp.Part{Line: "y", Attrs: []sdp.Attr{{Name: "a"}, {Name: n, Value: value}}}))
		}
		for _, n := range badNames {
			textless(t, short(n), with([]sdp.Attr{{Name: "a"}, {Name: n, Value: value}}))
			textless(t, short(n), with(nil, sdp.Part{Line: "x"}, sdp.Part{Line: "y", Attrs: []sdp.Attr{{Name: "a"}, {Name: n, Value: value}}}))
		}
	}
}

func TestPrintOfTooMuch(t *testing.T) {
	attr, part := sdp.Attr{Name: "b", Value: "c"}, sdp.Part{Line: "x"}
	for _, n := range []int{0, 1, api.MostAttrs - 1, api.MostAttrs} {
		printed(t, "attributes", with(many(n, attr)))
		printed(t, "a part's", with(many(n, attr), part, sdp.Part{Line: "y", Attrs: many(n, attr)}))
	}
	for _, n := range []int{api.MostAttrs + 1, 2 * api.MostAttrs, 1 << 20} {
		textless(t, "attributes", with(many(n, attr)))
		textless(t, "a part's", with(nil, part, sdp.Part{Line: "y", Attrs: many(n, attr)}))
	}
	for _, n := range []int{0, 1, api.MostParts - 1, api.MostParts} {
		printed(t, "parts", with(nil, many(n, part)...))
		printed(t, "parts", with(nil, many(n, sdp.Part{Line: "x", Conn: "y", Attrs: many(50, attr)})...))
	}
	for _, n := range []int{api.MostParts + 1, 2 * api.MostParts, 1 << 20} {
		textless(t, "parts", with(nil, many(n, part)...))
	}
}

func TestPrintOfLongTexts(t *testing.T) {
	for n := api.MostText - 300; n <= api.MostText; n++ {
		x, _, e := sdp.Parse(long(n))
		if e != api.OK {
			t.Fatal(n, e)
		}
		reads(t, long(n), x)
	}
	x, _, _ := sdp.Parse(long(api.MostText))
	for more := range 4 {
		y := x
		y.Origin = "x" + strings.Repeat("x", more)
		if more == 0 {
			printed(t, "as long as may be", y)
		} else {
			textless(t, strconv.Itoa(more)+" more", y)
		}
	}
	y := x
	y.Attrs = append(slices.Clone(x.Attrs), sdp.Attr{Name: "b"})
	textless(t, "an attribute more", y)
	y = x
	y.Parts = many(1, sdp.Part{Line: "x"})
	textless(t, "a part more", y)
	all := many(api.MostAttrs, sdp.Attr{Name: strings.Repeat("n", 32), Value: strings.Repeat("v", api.MostLine)})
	textless(t, "all of the longest", with(all, many(api.MostParts, sdp.Part{Line: "x", Attrs: all})...))
}

func TestPrintOfEmpty(t *testing.T) {
	textless(t, "nothing", sdp.Session{})
	textless(t, "a part of nothing", with(nil, sdp.Part{}))
	textless(t, "a part without its line", with(nil, sdp.Part{Conn: "x", Attrs: many(1, sdp.Attr{Name: "b"})}))
	textless(t, "an attribute of nothing", with(many(1, sdp.Attr{})))
	textless(t, "an attribute without its name", with(many(1, sdp.Attr{Value: "b"})))
	reads(t, head, with([]sdp.Attr{}, []sdp.Part{}...))
	reads(t, head+"m=x\r\n", with(nil, sdp.Part{Line: "x", Attrs: []sdp.Attr{}}))
}

// What is handed in is left as it is, its spare room too.
func TestPrintLeavesWhatIsHandedIn(t *testing.T) {
	x, was := fullSession(), fullSession()
	extra := sdp.Attr{Name: "spare"}
	roomy := append(slices.Grow(slices.Clone(x.Attrs), 8), extra, extra)
	x.Attrs = roomy[:len(x.Attrs)]
	parts := append(slices.Grow(slices.Clone(x.Parts), 8), sdp.Part{Line: "spare"})
	x.Parts = parts[:len(x.Parts)]
	reads(t, full, x)
	if !same(x, was) || roomy[2] != extra || roomy[3] != extra || parts[4].Line != "spare" {
		t.Error(x, roomy, parts)
	}
}

// printed asks whether Print tells a text of x that Parse takes for x.
func printed(t *testing.T, what string, x sdp.Session) {
	t.Helper()
	s, e := sdp.Print(x)
	if e != api.OK {
		t.Errorf("%s: %v", what, e)
		return
	}
	if y, at, e := sdp.Parse(s); e != api.OK || at != 0 || !same(x, y) {
		t.Errorf("%s: %s: %s, %d, %v", what, short(s), told(y), at, e)
	}
}
