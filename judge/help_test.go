package judge_test

import (
	"fmt"
	"reflect"
	"slices"
	"strconv"
	"strings"
	"testing"

	"rostrum/api"
	"rostrum/desc"
	"rostrum/judge"
)

func video(mid string) api.Media {
	return api.Media{
		Kind: api.Video, Port: 9, Mid: mid, Direction: api.Send + api.Recv,
		Codecs: []api.Codec{
			{Type: 96, Name: "VP8", Clock: 90000, Channels: 1, Feedback: []string{"nack", "transport-cc", "nack pli"}},
			{Type: 98, Name: "VP9", Clock: 90000, Channels: 1, Format: "profile-id=0", Feedback: []string{"goog-remb"}},
			{Type: 102, Name: "H264", Clock: 90000, Channels: 1, Format: "profile-level-id=42e01f", Feedback: []string{"nack"}},
			{Type: 104, Name: "H264", Clock: 90000, Channels: 1, Format: "profile-level-id=640032", Feedback: []string{"ccm fir"}},
		},
		Exts:    []api.Ext{{ID: 3, URI: "urn:mid"}, {ID: 14, URI: "urn:twcc"}, {ID: 1, URI: "urn:level"}},
		Rids:    []string{"q", "h", "f"},
		Sending: true,
		Sources: []uint32{4294967295, 0, 77},
		Crypto:  []api.Crypto{{Tag: 3, Key: [30]byte{1: 5, 29: 9}}},
	}
}

func audio(mid string) api.Media {
	return api.Media{
		Kind: api.Audio, Port: 9, Mid: mid, Direction: api.Send + api.Recv,
		Codecs: []api.Codec{
			{Type: 111, Name: "opus", Clock: 48000, Channels: 2, Format: "useinbandfec=1", Feedback: []string{"transport-cc"}},
			{Type: 9, Name: "G722", Clock: 8000, Channels: 1},
			{Type: 0, Name: "PCMU", Clock: 8000, Channels: 1, Feedback: []string{"nack", "x"}},
		},
		Exts:   []api.Ext{{ID: 1, URI: "urn:level"}, {ID: 2, URI: "urn:mid"}},
		Rids:   []string{"lo", "hi"},
		Crypto: []api.Crypto{{Tag: 9}},
	}
}

func data(mid string) api.Media {
	return api.Media{Kind: api.Data, Port: 9, Mid: mid, Direction: api.Send + api.Recv, SctpPort: 5000}
}

func kinds() []func(string) api.Media { return []func(string) api.Media{video, audio, data} }

// streams are the kinds but Data.
func streams() []func(string) api.Media { return kinds()[:2] }

// fit is a Media that answers m by all rules: it takes less than all of it, in other orders where it may.
func fit(m api.Media) api.Media {
	a := api.Media{Kind: m.Kind, Port: 9, Mid: m.Mid, Direction: []int{0, api.Recv, api.Send, api.Send + api.Recv}[m.Direction], SctpPort: m.SctpPort}
	if m.Kind == api.Data {
		a.SctpPort = 77
		return a
	}
	for i, c := range m.Codecs {
		if i != 1 || len(m.Codecs) < 3 {
			c.Feedback = turned(c.Feedback)
			a.Codecs = append(a.Codecs, c)
		}
	}
	a.Exts, a.Rids = turned(m.Exts), turned(m.Rids)
	a.Sending = len(a.Rids) > 0 && !m.Sending
	a.Sources = []uint32{5, 77}
	for _, c := range m.Crypto {
		a.Crypto = append(a.Crypto, api.Crypto{Tag: c.Tag, Key: [30]byte{7}})
	}
	return a
}

// turned is the list the other way about, without its last member if there are several.
func turned[T any](list []T) []T {
	few := slices.Clone(list[:max(len(list)-1, min(len(list), 1))])
	slices.Reverse(few)
	return few
}

// of is an offer of the Media, all bundled.
func of(list ...api.Media) api.Desc {
	d := api.Desc{ID: 1, Version: 4, Name: "peer", Password: "0123456789_abcdefghiJK", Media: list}
	for _, m := range list {
		d.Bundle = append(d.Bundle, m.Mid)
	}
	return d
}

// row is an offer of n Media, their Mids told by their places, of all kinds in turn from the one at first on.
func row(n, first int) api.Desc {
	var list []api.Media
	for i := range n {
		list = append(list, kinds()[(first+i)%len(kinds())]("m"+strconv.Itoa(i)))
	}
	return of(list...)
}

// answerOf is an answer of the Media, those bundled that are taken.
func answerOf(list ...api.Media) api.Desc {
	d := api.Desc{ID: 7, Version: 4, Name: "self", Password: "9876543210_ZYXWVUTSRQP", Media: list}
	for _, m := range list {
		if m.Port != 0 {
			d.Bundle = append(d.Bundle, m.Mid)
		}
	}
	return d
}

// taking is an answer that takes all that is offered, by all rules.
func taking(offer api.Desc) api.Desc {
	var list []api.Media
	for _, m := range offer.Media {
		list = append(list, fit(m))
	}
	d := answerOf(list...)
	d.Version = offer.Version
	return d
}

// refuse makes the answer's Media at i one that isn't taken.
func refuse(answer *api.Desc, i int) {
	answer.Media[i].Port = 0
	unbundle(answer, i)
}

func unbundle(d *api.Desc, i int) {
	mid := d.Media[i].Mid
	d.Bundle = slices.DeleteFunc(slices.Clone(d.Bundle), func(s string) bool { return s == mid })
}

// line is what a codec is but for its Feedback.
type line struct {
	kind            int
	name            string
	clock, channels int
	format          string
}

// broken are the numbers of the rules that don't hold, each asked by itself, as the chapter's words lay it.
func broken(offer, answer api.Desc) []int {
	bad := map[int]bool{
		1:  !desc.Good(offer) || !desc.Good(answer) || len(offer.Media) != len(answer.Media),
		10: offer.Version != answer.Version,
	}
	group := setOf(offer.Bundle)
	place := 0
	for i := range answer.Media {
		m := answer.Media[i]
		if m.Port == 0 {
			continue
		}
		bad[9] = bad[9] || place >= len(answer.Bundle) || answer.Bundle[place] != m.Mid || !group[m.Mid]
		place++
	}
	bad[9] = bad[9] || place != len(answer.Bundle)
	for i := range min(len(offer.Media), len(answer.Media)) {
		for rule := range brokenAt(offer.Media[i], answer.Media[i]) {
			bad[rule] = true
		}
	}
	var list []int
	for rule := 1; rule <= 10; rule++ {
		if bad[rule] {
			list = append(list, rule)
		}
	}
	return list
}

// brokenAt are the rules that don't hold between two Media.
func brokenAt(o, a api.Media) map[int]bool {
	bad := map[int]bool{}
	note := func(rule int, is bool) {
		if is {
			bad[rule] = true
		}
	}
	note(2, o.Kind != a.Kind || o.Mid != a.Mid)
	if a.Port == 0 {
		return bad
	}
	note(3, o.Port == 0)
	note(4, !codecsFit(o.Codecs, a.Codecs))
	note(5, !subset(a.Exts, o.Exts))
	sends, receives := a.Direction&1 == 1, a.Direction&2 == 2
	note(6, sends && o.Direction&2 != 2 || receives && o.Direction&1 != 1)
	note(7, !subset(a.Rids, o.Rids) || len(a.Rids) > 0 && a.Sending == o.Sending)
	if a.Kind == api.Data {
		note(8, a.SctpPort == 0)
		return bad
	}
	note(8, len(o.Crypto) != len(a.Crypto) || len(o.Crypto) > 0 && len(a.Crypto) > 0 && o.Crypto[0].Tag != a.Crypto[0].Tag)
	return bad
}

// codecsFit goes through both lists at once, as two rows in one order can be.
func codecsFit(offered, own []api.Codec) bool {
	lineOf := func(c api.Codec) line { return line{c.Type, c.Name, c.Clock, c.Channels, c.Format} }
	for len(own) > 0 {
		if len(offered) == 0 {
			return false
		}
		if lineOf(offered[0]) == lineOf(own[0]) {
			if !subset(own[0].Feedback, offered[0].Feedback) {
				return false
			}
			own = own[1:]
		}
		offered = offered[1:]
	}
	return true
}

func setOf[T comparable](list []T) map[T]bool {
	set := map[T]bool{}
	for _, x := range list {
		set[x] = true
	}
	return set
}

func subset[T comparable](few, all []T) bool {
	set := setOf(all)
	for x := range setOf(few) {
		if !set[x] {
			return false
		}
	}
	return true
}

// first is the smallest of the numbers, 0 if there are none.
func first(rules []int) int {
	if len(rules) == 0 {
		return 0
	}
	return slices.Min(rules)
}

// tells asks whether Check tells the number, and whether the chapter's words do.
func tells(t *testing.T, what string, offer, answer api.Desc, want int) {
	t.Helper()
	if by := broken(offer, answer); first(by) != want {
		t.Errorf("%s: broken are %v, not %d first: %s, %s", what, by, want, short(offer), short(answer))
	}
	if got := judge.Check(offer, answer); got != want {
		t.Errorf("%s: %d, not %d: %s, %s", what, got, want, short(offer), short(answer))
	}
	if got := judge.Check(copied(offer, true), copied(answer, false)); got != want {
		t.Errorf("%s: %d, not %d, of lists that aren't nil, with spare room", what, got, want)
	}
}

// one asks what Check tells of an offer of o alone and an answer of a alone.
func one(t *testing.T, what string, o, a api.Media, want int) {
	t.Helper()
	tells(t, what, of(o), answerOf(a), want)
}

// short is what x is, not too long.
func short(x any) string {
	s := fmt.Sprintf("%+v", x)
	return strings.ReplaceAll(s[:min(len(s), 600)], " 0 0 0 0 0", "")
}

// eachList calls do for each list that x, which a pointer leads to, is made of, the outer ahead of the inner.
func eachList(x any, do func(list reflect.Value)) {
	each(reflect.ValueOf(x).Elem(), func(v reflect.Value) {
		if v.Kind() == reflect.Slice {
			do(v)
		}
	})
}

// each calls do for all that v is made of: fields, lists, their members, but arrays as one.
func each(v reflect.Value, do func(v reflect.Value)) {
	do(v)
	switch v.Kind() {
	case reflect.Struct:
		for i := range v.NumField() {
			each(v.Field(i), do)
		}
	case reflect.Slice:
		for i := range v.Len() {
			each(v.Index(i), do)
		}
	}
}

// copied is x with lists of its own, an empty one where there is none, each with filled room behind it if spare is true.
func copied[T any](x T, spare bool) T {
	more := 0
	if spare {
		more = 3
	}
	eachList(&x, func(list reflect.Value) {
		n := list.Len()
		room := reflect.MakeSlice(list.Type(), n+more, n+more)
		for i := range more {
			room.Index(n + i).Set(filled(list.Type().Elem()))
		}
		reflect.Copy(room, list)
		list.Set(room.Slice(0, n))
	})
	return x
}

// filled is a thing of the type that isn't zero.
func filled(t reflect.Type) reflect.Value {
	v := reflect.New(t).Elem()
	each(v, func(v reflect.Value) {
		switch {
		case v.CanInt():
			v.SetInt(77)
		case v.CanUint():
			v.SetUint(77)
		case v.Kind() == reflect.String:
			v.SetString("spare")
		}
	})
	return v
}
