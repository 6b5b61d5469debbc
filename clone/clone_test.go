package clone_test

import (
	"reflect"
	"slices"
	"strings"
	"testing"
	"unsafe"

	"rostrum/api"
	"rostrum/clone"
)

func codecs() []api.Codec {
	return []api.Codec{
		{Type: 96, Name: "VP8", Clock: 90000, Channels: 1, Format: "x=1", Feedback: []string{"nack", "", "nack"}},
		{Type: -1, Name: "opus", Clock: 48000, Channels: 2},
		{},
	}
}

func whole() api.Desc {
	return api.Desc{
		ID: 1, Version: 2, Bundle: []string{"b", "a"}, Name: "peer", Password: "secret",
		Media: []api.Media{
			{
				Kind: api.Video, Port: 9, Mid: "a", Direction: 3, Codecs: codecs(),
				Exts: []api.Ext{{ID: 1, URI: "urn:a"}, {ID: 2, URI: "urn:b"}}, Rids: []string{"q", "h"}, Sending: true,
				Sources: []uint32{7, 0}, Crypto: []api.Crypto{{Tag: 3, Key: [30]byte{1, 29: 2}}}, SctpPort: 5,
			},
			{},
			{Kind: api.Data, Mid: "b", SctpPort: 5000, Rids: []string{"f"}},
		},
	}
}

// span is where a list or a text lies.
type span struct{ begin, end uintptr }

// spans are all lists, with their spare room, and texts of v.
func spans(v reflect.Value) []span {
	switch v.Kind() {
	case reflect.String:
		begin := uintptr(unsafe.Pointer(unsafe.StringData(v.String())))
		return []span{{begin, begin + uintptr(v.Len())}}
	case reflect.Struct:
		var list []span
		for i := range v.NumField() {
			list = append(list, spans(v.Field(i))...)
		}
		return list
	case reflect.Slice:
		list := []span{{v.Pointer(), v.Pointer() + uintptr(v.Cap())*v.Type().Elem().Size()}}
		for i := range v.Len() {
			list = append(list, spans(v.Index(i))...)
		}
		return list
	}
	return nil
}

// apart asks whether all lists and texts of all the things lie apart.
func apart(t *testing.T, things ...any) {
	t.Helper()
	var list []span
	for _, x := range things {
		list = append(list, spans(reflect.ValueOf(x))...)
	}
	list = slices.DeleteFunc(list, func(s span) bool { return s.begin == s.end })
	slices.SortFunc(list, func(a, b span) int { return int(a.begin) - int(b.begin) })
	for i := range len(list) - 1 {
		if list[i].end > list[i+1].begin {
			t.Errorf("memory is shared: %v, %v", list[i], list[i+1])
		}
	}
	if len(list) < 2*len(things) {
		t.Error("only", len(list))
	}
}

// Copies are alike, and lie apart from what they are made of, from each other and in themselves.
func TestCopies(t *testing.T) {
	d, a, b := whole(), clone.Desc(whole()), clone.Desc(whole())
	if !reflect.DeepEqual(a, d) || !reflect.DeepEqual(d, whole()) {
		t.Errorf("%+v", a)
	}
	apart(t, a, b)
	apart(t, a, clone.Desc(a))
	c := codecs()
	if got := clone.Codecs(c); !reflect.DeepEqual(got, c) {
		t.Errorf("%+v", got)
	} else {
		apart(t, clone.Codecs(got), got, clone.Codecs(got))
	}
	texts := []string{"a", strings.Repeat("b", 99), "", "a"}
	if got := clone.Texts(texts); !slices.Equal(got, texts) {
		t.Errorf("%q", got)
	} else {
		apart(t, clone.Texts(got), got, clone.Texts(got))
	}
}

// A copy of a list without members has none, and keeps nothing of the other's room.
func TestCopiesOfNone(t *testing.T) {
	room := []string{"spare"}
	for _, list := range [][]string{nil, {}, room[:0]} {
		if got := clone.Texts(list); len(got) != 0 || cap(got) != 0 || unsafe.SliceData(got) == &room[0] {
			t.Errorf("%q, %d", got, cap(got))
		}
	}
	if got := clone.Codecs(nil); len(got) != 0 {
		t.Errorf("%+v", got)
	}
	if got := clone.Desc(api.Desc{}); !reflect.DeepEqual(got, api.Desc{}) {
		t.Errorf("%+v", got)
	}
}

// What is copied is left as it is, and each field is copied: one thing of d is changed in turn, and the copy changes with it alone.
func TestCopiesOfEachField(t *testing.T) {
	for _, change := range []func(d *api.Desc){
		func(d *api.Desc) { d.ID = 9 },
		func(d *api.Desc) { d.Version = 9 },
		func(d *api.Desc) { d.Bundle = d.Bundle[:1] },
		func(d *api.Desc) { d.Name = "x" },
		func(d *api.Desc) { d.Password = "x" },
		func(d *api.Desc) { d.Media = d.Media[1:] },
		func(d *api.Desc) { d.Media[0].Kind = 7 },
		func(d *api.Desc) { d.Media[0].Port = 7 },
		func(d *api.Desc) { d.Media[0].Mid = "x" },
		func(d *api.Desc) { d.Media[0].Direction = 7 },
		func(d *api.Desc) { d.Media[0].Codecs[2].Format = "x" },
		func(d *api.Desc) { d.Media[0].Exts[1].URI = "x" },
		func(d *api.Desc) { d.Media[0].Exts[1].ID = 7 },
		func(d *api.Desc) { d.Media[0].Rids[1] = "x" },
		func(d *api.Desc) { d.Media[0].Sending = false },
		func(d *api.Desc) { d.Media[0].Sources[1] = 9 },
		func(d *api.Desc) { d.Media[0].Crypto[0].Tag = 7 },
		func(d *api.Desc) { d.Media[0].Crypto[0].Key[29] = 7 },
		func(d *api.Desc) { d.Media[0].SctpPort = 7 },
	} {
		d, want := whole(), whole()
		before := clone.Desc(d)
		change(&d)
		change(&want)
		if got := clone.Desc(d); !reflect.DeepEqual(got, want) || !reflect.DeepEqual(d, want) {
			t.Errorf("%+v, not %+v", got, want)
		}
		if !reflect.DeepEqual(before, whole()) {
			t.Errorf("changed: %+v", before)
		}
	}
}
