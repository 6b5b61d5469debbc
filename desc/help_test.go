package desc_test

import (
	"fmt"
	"math"
	"reflect"
	"regexp"
	"slices"
	"strconv"
	"strings"
	"testing"

	"rostrum/api"
	"rostrum/attr"
	"rostrum/desc"
	"rostrum/sdp"
)

const (
	name     = "aB-4"
	password = "0123456789_abcdefghiJK"
)

// bare is a Desc that has no more than it must.
func bare() api.Desc { return api.Desc{Name: name, Password: password} }

// channel is a Desc of one Media of Data.
func channel() api.Desc {
	d := bare()
	d.ID, d.Version, d.Bundle, d.Media = 7, 3, []string{"d"}, []api.Media{data("d")}
	return d
}

// whole is a Desc that has something of everything.
func whole() api.Desc {
	return api.Desc{
		ID: math.MaxUint64, Version: 12, Bundle: []string{"d", "v-1", "a"}, Name: name, Password: password,
		Media: []api.Media{audio("a"), video("v-1"), data("d"), audio("b")},
	}
}

func all() []api.Desc { return []api.Desc{bare(), channel(), whole()} }

func video(mid string) api.Media {
	return api.Media{
		Kind: api.Video, Port: 9, Mid: mid, Direction: api.Send,
		Codecs: []api.Codec{
			{Type: 96, Name: "VP8", Clock: 90000, Channels: 1, Feedback: []string{"nack", "nack pli"}},
			{Type: 102, Name: "H264", Clock: 90000, Channels: 1, Format: "profile-level-id=42e01f", Feedback: []string{"nack"}},
		},
		Exts:    []api.Ext{{ID: 3, URI: "urn:ietf:params:rtp-hdrext:sdes:mid"}, {ID: 14, URI: "x"}},
		Rids:    []string{"q", "h"},
		Sending: true,
		Sources: []uint32{4294967295, 77},
		Crypto:  []api.Crypto{{Tag: 1, Key: [30]byte{7: 200, 29: 1}}},
	}
}

func audio(mid string) api.Media {
	return api.Media{Kind: api.Audio, Mid: mid, Direction: api.Recv, Codecs: []api.Codec{{Type: 111, Name: "opus", Clock: 48000, Channels: 2}}}
}

func data(mid string) api.Media {
	return api.Media{Kind: api.Data, Port: 9, Mid: mid, Direction: api.Send + api.Recv, SctpPort: 5000}
}

// of is a Desc of n Media, their Mids told by their places; all of them are bundled.
func of(n int, media func(string) api.Media) api.Desc {
	d := bare()
	for i := range n {
		mid := "m" + strconv.Itoa(i)
		d.Bundle, d.Media = append(d.Bundle, mid), append(d.Media, media(mid))
	}
	return d
}

// sized is a Desc whose text has n bytes, n being somewhere about MostText.
func sized(n int) api.Desc {
	d := of(api.MostParts, audio)
	for i := range d.Media {
		m := &d.Media[i]
		m.Codecs = nil
		for kind := range api.MostCodecs {
			m.Codecs = append(m.Codecs, api.Codec{Type: kind, Name: "c", Clock: 90000, Channels: 1})
		}
		m.Codecs[i].Format = strings.Repeat("f", 100)
		m.Codecs[8].Feedback = []string{strings.Repeat("f", 100)}
	}
	left := n - len(laid(d))
	for i := range d.Media {
		for j := range d.Media[i].Codecs {
			more := min(left, 31)
			d.Media[i].Codecs[j].Name += strings.Repeat("c", more)
			left -= more
		}
	}
	return d
}

// crowded is a Media whose part would have n attributes.
func crowded(mid string, n int) api.Media {
	m := audio(mid)
	for kind := range 9 {
		m.Codecs = append(m.Codecs, api.Codec{Type: kind, Name: "c", Clock: 1, Channels: 1})
	}
	for left := n - 2 - len(m.Codecs); left > 0; left-- {
		c := &m.Codecs[left%len(m.Codecs)]
		c.Feedback = append(c.Feedback, "nack")
	}
	return m
}

// laid is d's text, as the chapter's words lay it.
func laid(d api.Desc) string {
	var b strings.Builder
	line := func(form string, args ...any) { fmt.Fprintf(&b, form+"\r\n", args...) }
	line("v=0")
	line("o=- %d %d IN IP4 127.0.0.1", d.ID, d.Version)
	line("s=-")
	line("t=0 0")
	if len(d.Bundle) > 0 {
		line("a=group:BUNDLE %s", strings.Join(d.Bundle, " "))
	}
	line("a=ice-ufrag:%s", d.Name)
	line("a=ice-pwd:%s", d.Password)
	for _, m := range d.Media {
		p, _ := attr.Write(m)
		line("m=%s", p.Line)
		line("c=%s", p.Conn)
		for _, a := range p.Attrs {
			line("a=%s", strings.TrimSuffix(a.Name+":"+a.Value, ":"))
		}
	}
	return b.String()
}

// linesOf is the lines of s, each with its end.
func linesOf(s string) []string {
	lines := strings.SplitAfter(s, "\r\n")
	return lines[:len(lines)-1]
}

// at is the place of the line that begins as s does.
func at(lines []string, s string) int {
	return slices.IndexFunc(lines, func(l string) bool { return strings.HasPrefix(l, s) })
}

// put is s with lines put in ahead of the one at i.
func put(s string, i int, lines ...string) string {
	return strings.Join(slices.Insert(linesOf(s), i, lines...), "")
}

// A session ahead of its parts, as a grammar of the tests' own.
var (
	originRule = regexp.MustCompile(`\A- (0|[1-9][0-9]*) (0|[1-9][0-9]*) IN IP4 127\.0\.0\.1\z`)
	attrsRule  = regexp.MustCompile(`\A(?:group:BUNDLE((?: [A-Za-z0-9_-]{1,16})+)\n)?ice-ufrag:([A-Za-z0-9_-]{4,32})\nice-pwd:([A-Za-z0-9_-]{22,32})\n\z`)
)

// meant tells what s says, by the grammar, and where it is wrong.
func meant(s string) (api.Desc, int, api.Errno) {
	x, line, e := sdp.Parse(s)
	if e != api.OK {
		return api.Desc{}, line, e
	}
	attrs := ""
	for _, a := range x.Attrs {
		if slices.Contains([]string{"group", "ice-ufrag", "ice-pwd"}, a.Name) {
			attrs += a.Name + ":" + a.Value + "\n"
		}
	}
	v, w := originRule.FindStringSubmatch(x.Origin), attrsRule.FindStringSubmatch(attrs)
	if v == nil || w == nil || x.Name != "-" || x.Time != "0 0" {
		return api.Desc{}, 0, api.ErrForm
	}
	id, wrongID := strconv.ParseUint(v[1], 10, 64)
	version, wrongVersion := strconv.ParseUint(v[2], 10, 64)
	d := api.Desc{ID: id, Version: version, Bundle: strings.Fields(w[1]), Name: w[2], Password: w[3]}
	mids, bundled := map[string]bool{}, map[string]bool{}
	fine := wrongID == nil && wrongVersion == nil
	for _, p := range x.Parts {
		m, e := attr.Read(p)
		fine = fine && e == api.OK && !mids[m.Mid]
		d.Media, mids[m.Mid] = append(d.Media, m), true
	}
	for _, mid := range d.Bundle {
		fine = fine && mids[mid] && !bundled[mid]
		bundled[mid] = true
	}
	if !fine {
		return api.Desc{}, 0, api.ErrForm
	}
	return d, 0, api.OK
}

// eachList calls do for each list that x, which a pointer leads to, is made of, the outer ahead of the inner.
func eachList(x any, do func(path string, list reflect.Value)) {
	each(reflect.ValueOf(x).Elem(), "", func(path string, v reflect.Value) {
		if v.Kind() == reflect.Slice {
			do(path, v)
		}
	})
}

// each calls do for all that v is made of: fields, lists, their members, and arrays' ones.
func each(v reflect.Value, path string, do func(path string, v reflect.Value)) {
	do(path, v)
	switch v.Kind() {
	case reflect.Struct:
		for i := range v.NumField() {
			each(v.Field(i), path+"."+v.Type().Field(i).Name, do)
		}
	case reflect.Slice, reflect.Array:
		for i := range v.Len() {
			each(v.Index(i), path+"["+strconv.Itoa(i)+"]", do)
		}
	}
}

// copied is d with lists of its own, an empty one where there is none, each with filled room behind it if spare is true.
func copied(d api.Desc, spare bool) api.Desc {
	eachList(&d, func(_ string, list reflect.Value) {
		n := list.Len()
		more := 0
		if spare {
			more = 3
		}
		room := reflect.MakeSlice(list.Type(), n+more, n+more)
		for i := range more {
			room.Index(n + i).Set(filled(list.Type().Elem()))
		}
		reflect.Copy(room, list)
		list.Set(room.Slice(0, n))
	})
	return d
}

// filled is a thing of the type that isn't zero.
func filled(t reflect.Type) reflect.Value {
	v := reflect.New(t).Elem()
	each(v, "", func(_ string, v reflect.Value) {
		switch {
		case v.CanInt():
			v.SetInt(77)
		case v.CanUint():
			v.SetUint(77)
		case v.Kind() == reflect.String:
			v.SetString("spare")
		}
	})
	return v
}

// same tells whether a and b are alike; what no list and an empty one are made of is the same.
func same(a, b api.Desc) bool { return reflect.DeepEqual(copied(a, false), copied(b, false)) }

// short is what is to be told, cut where it is too long.
func short(x any) string {
	s := fmt.Sprintf("%+q", fmt.Sprint(x))
	return s[:min(len(s), 600)]
}

// right asks whether d is good and its text s, for Print and for Read.
func right(t *testing.T, what string, d api.Desc, s string) {
	t.Helper()
	if !desc.Good(d) {
		t.Errorf("%s: not good: %s", what, short(d))
	}
	if got, e := desc.Print(d); e != api.OK || got != s {
		t.Errorf("%s: %s: %s, %v, not %s", what, short(d), short(got), e, short(s))
	}
	reads(t, what, s, d)
}

// reads asks whether Read takes s for d.
func reads(t *testing.T, what, s string, d api.Desc) {
	t.Helper()
	got, line, e := desc.Read(s)
	if e != api.OK || line != 0 || !same(got, d) || !desc.Same(got, d) {
		t.Errorf("%s: %s: %s, %d, %v, not %s", what, short(s), short(got), line, e, short(d))
	}
}

// refused asks whether Read answers that line, and that error, and nothing else.
func refused(t *testing.T, what, s string, line int, e api.Errno) {
	t.Helper()
	if got, at, err := desc.Read(s); err != e || at != line || !same(got, api.Desc{}) {
		t.Errorf("%s: %s: %s, %d, %v, not %d, %v", what, short(s), short(got), at, err, line, e)
	}
}

// wrong asks whether Read finds no Desc whose session s is.
func wrong(t *testing.T, what, s string) {
	t.Helper()
	refused(t, what, s, 0, api.ErrForm)
}

// judged asks whether Read tells of s what the tests' grammar does.
func judged(t *testing.T, what, s string) {
	t.Helper()
	d, line, e := meant(s)
	if e != api.OK {
		refused(t, what, s, line, e)
		return
	}
	reads(t, what, s, d)
	if !desc.Good(d) {
		t.Errorf("%s: not good: %s", what, short(d))
	}
}

// asks asks whether d is good just if want is true; and what Print answers, and Read of its text.
func asks(t *testing.T, what string, d api.Desc, want bool) {
	t.Helper()
	if want {
		right(t, what, d, laid(d))
		return
	}
	if desc.Good(d) {
		t.Errorf("%s: good: %s", what, short(d))
	}
	unprinted(t, what, d)
	judged(t, what, laid(d))
}

// unprinted asks whether Print refuses d.
func unprinted(t *testing.T, what string, d api.Desc) {
	t.Helper()
	if s, e := desc.Print(d); e != api.ErrArg || s != "" {
		t.Errorf("%s: %s: %s, %v", what, short(d), short(s), e)
	}
}
