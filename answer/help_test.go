package answer_test

import (
	"fmt"
	"reflect"
	"slices"
	"strconv"
	"strings"
	"testing"

	"rostrum/answer"
	"rostrum/api"
	"rostrum/desc"
)

// What is handed in beside the offer and the Config, where a test has nothing else to say.
const (
	id       = 7
	name     = "self"
	password = "9876543210_ZYXWVUTSRQP"
)

var key = [30]byte{0: 1, 13: 200, 29: 255}

// config can do what the offers below ask for.
func config() api.Config {
	return api.Config{
		Codecs: []api.Codec{
			{Type: 1, Name: "H264", Clock: 90000, Channels: 1, Format: "own", Feedback: []string{"nack pli", "goog-remb"}},
			{Type: 96, Name: "opus", Clock: 48000, Channels: 2},
			{Type: 2, Name: "VP8", Clock: 90000, Channels: 1, Feedback: []string{"ccm fir", "nack", "nack pli"}},
		},
		Exts: []string{"urn:level", "urn:mid", "urn:twcc"},
		Data: true,
	}
}

func video(mid string) api.Media {
	return api.Media{
		Kind: api.Video, Port: 9, Mid: mid, Direction: api.Send,
		Codecs: []api.Codec{
			{Type: 96, Name: "VP8", Clock: 90000, Channels: 1, Feedback: []string{"nack", "transport-cc", "nack pli"}},
			{Type: 98, Name: "VP9", Clock: 90000, Channels: 1, Format: "profile-id=0", Feedback: []string{"nack"}},
			{Type: 102, Name: "H264", Clock: 90000, Channels: 1, Format: "profile-level-id=42e01f", Feedback: []string{"nack", "nack pli"}},
		},
		Exts:    []api.Ext{{ID: 3, URI: "urn:mid"}, {ID: 14, URI: "urn:other"}, {ID: 1, URI: "urn:level"}},
		Rids:    []string{"q", "h", "f"},
		Sending: true,
		Sources: []uint32{4294967295, 0, 77},
		Crypto:  []api.Crypto{{Tag: 3, Key: [30]byte{1: 5, 29: 9}}},
	}
}

func audio(mid string) api.Media {
	return api.Media{
		Kind: api.Audio, Port: 9, Mid: mid, Direction: api.Send + api.Recv,
		Codecs: []api.Codec{{Type: 111, Name: "opus", Clock: 48000, Channels: 2, Format: "useinbandfec=1"}},
		Crypto: []api.Crypto{{Tag: 1}},
	}
}

func data(mid string) api.Media {
	return api.Media{Kind: api.Data, Port: 9, Mid: mid, Direction: api.Send + api.Recv, SctpPort: 5000}
}

func kinds() []func(string) api.Media { return []func(string) api.Media{audio, video, data} }

// of is an offer of the Media, all bundled.
func of(list ...api.Media) api.Desc {
	d := api.Desc{ID: 1, Version: 4, Name: "peer", Password: "0123456789_abcdefghiJK", Media: list}
	for _, m := range list {
		d.Bundle = append(d.Bundle, m.Mid)
	}
	return d
}

// row is an offer of n Media, their Mids told by their places.
func row(n int, media func(string) api.Media) api.Desc {
	var list []api.Media
	for i := range n {
		list = append(list, media("m"+strconv.Itoa(i)))
	}
	return of(list...)
}

// mixed is an offer of n Media of all kinds in turn.
func mixed(n int) api.Desc {
	i := -1
	return row(n, func(mid string) api.Media {
		i++
		return kinds()[i%len(kinds())](mid)
	})
}

// whole is an offer that has something of everything: b isn't bundled, w has no Port, x no Crypto.
func whole() api.Desc {
	w, x := video("w"), video("x")
	w.Port, x.Crypto = 0, nil
	d := of(data("d"), video("v-1"), w, audio("a"), audio("b"), x)
	d.Bundle = []string{"x", "a", "d", "w", "v-1"}
	return d
}

func all() []api.Desc { return []api.Desc{of(), whole(), mixed(api.MostParts)} }

// way is what common codecs have in common.
type way struct {
	name            string
	clock, channels int
}

func wayOf(c api.Codec) way { return way{c.Name, c.Clock, c.Channels} }

// meant is the answer, as the chapter's words lay it.
func meant(offer api.Desc, c api.Config, id uint64, name, password string, key [30]byte) api.Desc {
	own := map[way]api.Codec{}
	for _, x := range slices.Backward(c.Codecs) {
		own[wayOf(x)] = x
	}
	d := api.Desc{ID: id, Version: offer.Version, Name: name, Password: password}
	for _, m := range offer.Media {
		codecs := slices.DeleteFunc(slices.Clone(m.Codecs), func(x api.Codec) bool { _, ok := own[wayOf(x)]; return !ok })
		refused := m.Port == 0 || !slices.Contains(offer.Bundle, m.Mid)
		refused = refused || m.Kind == api.Data && !c.Data
		refused = refused || m.Kind != api.Data && (len(codecs) == 0 || len(m.Crypto) == 0)
		if refused {
			d.Media = append(d.Media, api.Media{Kind: m.Kind, Mid: m.Mid, Codecs: m.Codecs, SctpPort: m.SctpPort})
			continue
		}
		d.Bundle = append(d.Bundle, m.Mid)
		for i := range codecs {
			had := own[wayOf(codecs[i])].Feedback
			codecs[i].Feedback = slices.DeleteFunc(slices.Clone(codecs[i].Feedback), func(f string) bool { return !slices.Contains(had, f) })
		}
		m.Port, m.Direction, m.Codecs = 9, []int{0, 2, 1, 3}[m.Direction], codecs
		m.Exts = slices.DeleteFunc(slices.Clone(m.Exts), func(x api.Ext) bool { return !slices.Contains(c.Exts, x.URI) })
		if !m.Sending {
			m.Rids = nil
		}
		m.Sending, m.Sources = false, nil
		if m.Kind != api.Data {
			m.Crypto = []api.Crypto{{Tag: m.Crypto[0].Tag, Key: key}}
		}
		d.Media = append(d.Media, m)
	}
	return d
}

func run(offer api.Desc, c api.Config) (api.Desc, api.Errno) {
	return answer.Make(offer, c, id, name, password, key)
}

// gives asks whether the answer to the offer is the one that is wanted.
func gives(t *testing.T, what string, offer api.Desc, c api.Config, want api.Desc) {
	t.Helper()
	got, e := run(offer, c)
	if e != api.OK || !same(got, want) {
		t.Errorf("%s: %s: %s, %v, not %s", what, short(offer), short(got), e, short(want))
	}
	if again, e := run(copied(offer, true), c); e != api.OK || !same(again, want) {
		t.Errorf("%s: another time: %s, %v", what, short(again), e)
	}
}

// right asks whether the answer is good, and as the chapter's words lay it.
func right(t *testing.T, what string, offer api.Desc, c api.Config) {
	t.Helper()
	gives(t, what, offer, c, meant(offer, c, id, name, password, key))
	if got, _ := run(offer, c); !desc.Good(got) {
		t.Errorf("%s: not good: %s", what, short(got))
	}
}

// one asks whether an offer of m alone is answered right, and tells the answer's Media.
func one(t *testing.T, what string, m api.Media, c api.Config) api.Media {
	t.Helper()
	right(t, what, of(m), c)
	got, _ := run(of(m), c)
	if len(got.Media) != 1 {
		t.Fatalf("%s: %s", what, short(got))
	}
	return got.Media[0]
}

// wrong asks whether an offer that isn't good is answered by ErrArg and nothing else.
func wrong(t *testing.T, what string, offer api.Desc) {
	t.Helper()
	if desc.Good(offer) {
		t.Errorf("%s: good: %s", what, short(offer))
	}
	for _, c := range []api.Config{config(), {}} {
		if got, e := run(offer, c); e != api.ErrArg || !reflect.DeepEqual(got, api.Desc{}) {
			t.Errorf("%s: %s: %s, %v", what, short(offer), short(got), e)
		}
	}
}

// short is what x is, not too long.
func short(x any) string {
	s := fmt.Sprintf("%+v", x)
	if len(s) > 900 {
		s = s[:900] + ".."
	}
	return strings.ReplaceAll(s, " 0 0 0 0 0", "")
}

// eachList calls do for each list that x, which a pointer leads to, is made of, the outer ahead of the inner.
func eachList(x any, do func(path string, list reflect.Value)) {
	each(reflect.ValueOf(x).Elem(), "", func(path string, v reflect.Value) {
		if v.Kind() == reflect.Slice {
			do(path, v)
		}
	})
}

// each calls do for all that v is made of: fields, lists, their members.
func each(v reflect.Value, path string, do func(path string, v reflect.Value)) {
	do(path, v)
	switch v.Kind() {
	case reflect.Struct:
		for i := range v.NumField() {
			each(v.Field(i), path+"."+v.Type().Field(i).Name, do)
		}
	case reflect.Slice:
		for i := range v.Len() {
			each(v.Index(i), path+"["+strconv.Itoa(i)+"]", do)
		}
	}
}

// copied is x with lists of its own, an empty one where there is none, each with filled room behind it if spare is true.
func copied[T any](x T, spare bool) T {
	more := 0
	if spare {
		more = 3
	}
	eachList(&x, func(_ string, list reflect.Value) {
		n := list.Len()
		room := reflect.MakeSlice(list.Type(), n+more, n+more)
		for i := range more {
			room.Index(n + i).Set(filled(list.Type().Elem()))
		}
		reflect.Copy(room, list)
		list.Set(room.Slice(0, n))
	})
	return x
}

// filled is a thing of the type that isn't zero.
func filled(t reflect.Type) reflect.Value {
	v := reflect.New(t).Elem()
	each(v, "", func(_ string, v reflect.Value) {
		switch {
		case v.CanInt():
			v.SetInt(77)
		case v.CanUint():
			v.SetUint(77)
		case v.Kind() == reflect.String:
			v.SetString("spare")
		}
	})
	return v
}

// same tells whether a and b are alike; what no list and an empty one are made of is the same.
func same[T any](a, b T) bool { return reflect.DeepEqual(copied(a, false), copied(b, false)) }
