package sdp_test

import (
	"fmt"
	"reflect"
	"regexp"
	"slices"
	"strings"
	"testing"

	"rostrum/api"
	"rostrum/sdp"
)

const (
	head = "v=0\r\no=x\r\ns=-\r\nt=0 0\r\n"
	full = head + "a=group:BUNDLE a b\r\na=flag\r\n" +
		"m=audio 9 RTP/SAVPF 111\r\nc=IN IP4 0.0.0.0\r\na=mid:a\r\na=fmtp:111 a=b;c=d:e\r\n" +
		"m=video\r\n" +
		"m=data\r\na=x-Y_9\r\n" +
		"m=last\r\nc=y\r\n"
)

// fullSession is the description whose text is full.
func fullSession() sdp.Session {
	return sdp.Session{
		Origin: "x", Name: "-", Time: "0 0",
		Attrs: []sdp.Attr{{Name: "group", Value: "BUNDLE a b"}, {Name: "flag"}},
		Parts: []sdp.Part{
			{Line: "audio 9 RTP/SAVPF 111", Conn: "IN IP4 0.0.0.0", Attrs: []sdp.Attr{{Name: "mid", Value: "a"}, {Name: "fmtp", Value: "111 a=b;c=d:e"}}},
			{Line: "video"},
			{Line: "data", Attrs: []sdp.Attr{{Name: "x-Y_9"}}},
			{Line: "last", Conn: "y"},
		},
	}
}

// plain is a description that has nothing but its head.
func plain() sdp.Session {
	return sdp.Session{Origin: "x", Name: "-", Time: "0 0"}
}

// many is n attributes, or n parts.
func many[T sdp.Attr | sdp.Part](n int, x T) []T {
	return slices.Repeat([]T{x}, n)
}

// joined is the lines with their ends.
func joined(lines ...string) string {
	return strings.Join(lines, "\r\n") + "\r\n"
}

// parted is a right text's lines.
func parted(s string) []string {
	return strings.Split(strings.TrimSuffix(s, "\r\n"), "\r\n")
}

// bare is x with nil in the place of lists without elements.
func bare(x sdp.Session) sdp.Session {
	x.Parts = slices.Clone(x.Parts)
	if len(x.Attrs) == 0 {
		x.Attrs = nil
	}
	if len(x.Parts) == 0 {
		x.Parts = nil
	}
	for i, p := range x.Parts {
		if len(p.Attrs) == 0 {
			x.Parts[i].Attrs = nil
		}
	}
	return x
}

func same(a, b sdp.Session) bool {
	return reflect.DeepEqual(bare(a), bare(b))
}

// short is s, cut where it is too long to be told.
func short(s string) string {
	if len(s) > 300 {
		return fmt.Sprintf("%q .. (%d bytes)", s[:300], len(s))
	}
	return fmt.Sprintf("%q", s)
}

func told(x sdp.Session) string {
	return short(fmt.Sprint(x))
}

// reads asks whether s is x's text, for Parse and for Print.
func reads(t *testing.T, s string, x sdp.Session) {
	t.Helper()
	got, at, e := sdp.Parse(s)
	if e != api.OK || at != 0 || !same(got, x) {
		t.Errorf("%s: %s, %d, %v, not %s", short(s), told(got), at, e, told(x))
	}
	if back, e := sdp.Print(x); e != api.OK || back != s {
		t.Errorf("%s: %s, %v, not %s", told(x), short(back), e, short(s))
	}
}

// right asks whether s is a text, and what Parse tells of it is printed as it stood.
func right(t *testing.T, s string) {
	t.Helper()
	x, at, e := sdp.Parse(s)
	if e != api.OK || at != 0 {
		t.Errorf("%s: %d, %v", short(s), at, e)
		return
	}
	reads(t, s, x)
}

// wrong asks whether Parse refuses s at the line at.
func wrong(t *testing.T, s string, at int, e api.Errno) {
	t.Helper()
	x, gotAt, got := sdp.Parse(s)
	if got != e || gotAt != at || !same(x, sdp.Session{}) {
		t.Errorf("%s: %s, %d, %v, not %d, %v", short(s), told(x), gotAt, got, at, e)
	}
}

// textless asks whether Print refuses x.
func textless(t *testing.T, what string, x sdp.Session) {
	t.Helper()
	if s, e := sdp.Print(x); e != api.ErrArg || s != "" {
		t.Errorf("%s: %s, %v", what, short(s), e)
	}
}

// The grammar without its limits, as a judge of its own.
const (
	value  = `[ -~]{1,200}`
	attrs  = `(a=[A-Za-z0-9_-]{1,32}(:` + value + `)?\r\n)*`
	starts = `\Av=0\r\n(o=` + value + `\r\n(s=` + value + `\r\n(t=` + value + `\r\n)?)?)?\z`
	whole  = `\Av=0\r\no=` + value + `\r\ns=` + value + `\r\nt=` + value + `\r\n` + attrs + `(m=` + value + `\r\n(c=` + value + `\r\n)?` + attrs + `)*\z`
)

var (
	startsRule = regexp.MustCompile(starts)
	wholeRule  = regexp.MustCompile(whole)
)

// judged tells, of a text within all limits, the line of it that is wrong, 0 if none is: the first with which the text from its beginning on is none, and no head's beginning.
func judged(s string) int {
	end := 0
	for at := 1; ; at++ {
		if end == len(s) && at > 4 {
			return 0
		}
		n := strings.Index(s[end:], "\r\n")
		if n < 0 {
			return at
		}
		end += n + 2
		if !startsRule.MatchString(s[:end]) && !wholeRule.MatchString(s[:end]) {
			return at
		}
	}
}
