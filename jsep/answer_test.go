package jsep_test

import (
	"math"
	"slices"
	"strconv"
	"strings"
	"testing"

	"rostrum/answer"
	"rostrum/api"
	"rostrum/judge"
)

// badNames are names that no good answer has.
func badNames() []string {
	return []string{"", "abc", strings.Repeat("a", 33), "ab d", "abcd\n", "abcd\x00", "\xffabcd", "ab.d", strings.Repeat("a", 1<<16)}
}

// badPasswords are passwords that no good answer has.
func badPasswords() []string {
	return []string{"", strings.Repeat("a", 21), strings.Repeat("a", 33), strings.Repeat("a", 22) + " ", strings.Repeat("a", 21) + "/"}
}

// An answer that can't be made is layer 9's error: the remote offer stands still, and is answered later.
func TestAnswersThatArentGood(t *testing.T) {
	for _, offer := range []api.Desc{of(), row(2, 0), row(api.MostParts, 1)} {
		for what, begin := range beginnings(offer) {
			p := did(t, slices.Concat(begin, into(remote, offer))...)
			for _, c := range []api.Config{config(), {}} {
				for _, bad := range badNames() {
					p.gives(t, what, answering(c, id, bad, password, key), api.ErrArg, remote)
				}
				for _, bad := range badPasswords() {
					p.gives(t, what, answering(c, id, name, bad, key), api.ErrArg, remote)
					p.gives(t, what, answering(c, id, "", bad, key), api.ErrArg, remote)
				}
			}
			p.gives(t, what, remotely(offer), api.ErrState, remote)
			p.gives(t, what, answering(config(), 99, "later", strings.Repeat("l", 22), key), api.OK, stable)
			if got, own, ok := p.Agreed(); !ok || own.Name != "later" || own.ID != 99 || !same(got, offer) {
				t.Errorf("%s: %s, %s", what, short(got), short(own))
			}
		}
	}
}

// An offer is answered once: no error of Make's is told where there is none.
func TestAnswerWithoutOffer(t *testing.T) {
	offer := row(2, 0)
	for what, begin := range beginnings(offer) {
		for state := range stateNames() {
			if state == remote {
				continue
			}
			p := did(t, slices.Concat(begin, into(state, offer))...)
			p.gives(t, what, replying(), api.ErrState, state)
			p.gives(t, what, answering(api.Config{}, 0, "", "", [30]byte{}), api.ErrState, state)
		}
		p := did(t, slices.Concat(begin, into(remote, offer), []step{replying()})...)
		p.gives(t, what, replying(), api.ErrState, stable)
	}
}

// configs are able to do a lot, little and nothing.
func configs() []api.Config {
	list := []api.Config{config(), {}, {Data: true}, {Exts: []string{"urn:mid"}}}
	for i := range config().Codecs {
		list = append(list, api.Config{Codecs: config().Codecs[i : i+1], Exts: []string{"urn:other", "urn:mid"}, Data: i == 1})
	}
	return list
}

// What Answer is handed makes the answer as layer 9 makes it, each of them, and what is made is judged 0 and agreed.
func TestAnswerHandsOnAll(t *testing.T) {
	other := key
	other[29]++
	for first := range kinds() {
		for _, c := range configs() {
			for _, id := range []uint64{0, 1, 7, math.MaxUint64} {
				for _, own := range []string{"self", "-_-_", strings.Repeat("Z", 32)} {
					for _, key := range [][30]byte{{}, key, other} {
						offer := row(3, first)
						p := did(t, remotely(offer))
						got, e := p.Answer(c, id, own, password, key)
						want, _ := answer.Make(offer, c, id, own, password, key)
						if e != api.OK || !same(got, want) || judge.Check(offer, got) != 0 {
							t.Errorf("%s, %v, not %s", short(got), e, short(want))
						}
						if had, agreed, ok := p.Agreed(); !ok || !same(had, offer) || !same(agreed, want) {
							t.Errorf("agreed: %s, %s, %v", short(had), short(agreed), ok)
						}
					}
				}
			}
		}
	}
}

// A way in which one of layer 10's rules is broken of a Media.
type way struct {
	rule int
	what string
	lay  func(offer, own *api.Desc, i int)
}

// part is a way that is of one Media alone.
func part(rule int, what string, lay func(o, a *api.Media)) way {
	return way{rule, what, func(offer, own *api.Desc, i int) { lay(&offer.Media[i], &own.Media[i]) }}
}

// ways are of a Media of Video, each of one rule alone; offers they change stay good.
func ways() []way {
	return []way{
		{1, "Name", func(_, own *api.Desc, _ int) { own.Name = "abc" }},
		{1, "Media", func(_, own *api.Desc, _ int) { own.Media = append(own.Media, data("new")) }},
		{1, "nothing", func(_, own *api.Desc, _ int) { *own = api.Desc{} }},
		part(1, "Port", func(_, a *api.Media) { a.Port = 5 }),
		part(2, "Kind", func(_, a *api.Media) { a.Kind = api.Audio }),
		{2, "Mid", func(offer, own *api.Desc, i int) { own.Media[i].Mid, own.Bundle[i] = "x", "x" }},
		part(3, "no Port", func(o, _ *api.Media) { o.Port = 0 }),
		part(4, "Type", func(_, a *api.Media) { a.Codecs[1].Type = 5 }),
		part(4, "order", func(_, a *api.Media) { slices.Reverse(a.Codecs) }),
		part(4, "Feedback", func(_, a *api.Media) { a.Codecs[0].Feedback = []string{"other"} }),
		part(5, "URI", func(_, a *api.Media) { a.Exts[2].URI = "urn:none" }),
		part(5, "ID", func(_, a *api.Media) { a.Exts[0].ID = 9 }),
		part(6, "Send", func(o, a *api.Media) { o.Direction, a.Direction = api.Send, api.Send }),
		part(6, "Recv", func(o, a *api.Media) { o.Direction, a.Direction = 0, api.Recv }),
		part(7, "Rid", func(_, a *api.Media) { a.Rids[1] = "x" }),
		part(7, "Sending", func(_, a *api.Media) { a.Sending = true }),
		part(8, "no Crypto", func(_, a *api.Media) { a.Crypto = nil }),
		part(8, "a Crypto more", func(o, _ *api.Media) { o.Crypto = nil }),
		part(8, "Tag", func(_, a *api.Media) { a.Crypto[0].Tag = 1 }),
		{9, "no Bundle", func(_, own *api.Desc, _ int) { own.Bundle = nil }},
		{9, "order", func(_, own *api.Desc, i int) {
			own.Bundle = slices.Insert(slices.Delete(own.Bundle, i, i+1), (i+1)%3, own.Media[i].Mid)
		}},
		{9, "not offered", func(offer, _ *api.Desc, i int) { offer.Bundle = slices.Delete(offer.Bundle, i, i+1) }},
		{10, "one more", func(_, own *api.Desc, _ int) { own.Version++ }},
		{10, "one less", func(_, own *api.Desc, _ int) { own.Version-- }},
	}
}

// broken is an offer of three Videos and an answer that breaks the rule at the one at i.
func (w way) broken(t *testing.T, i int) (api.Desc, api.Desc) {
	t.Helper()
	offer := of(video("a"), video("b"), video("c"))
	own := copied(taking(offer), false)
	w.lay(&offer, &own, i)
	if got := judge.Check(offer, own); got != w.rule {
		t.Fatalf("%s at %d: %d, not %d", w.what, i, got, w.rule)
	}
	return offer, own
}

// An answer that breaks one of layer 10's rules isn't accepted: the local offer stands still, and a better answer is.
func TestAcceptOfEachRuleBroken(t *testing.T) {
	var seen [11]int
	for _, w := range ways() {
		for i := range 3 {
			offer, bad := w.broken(t, i)
			seen[w.rule]++
			for what, begin := range beginnings(of(video("a"), video("b"))) {
				what += ", " + strconv.Itoa(w.rule) + " " + w.what
				p := did(t, slices.Concat(begin, into(local, offer))...)
				p.gives(t, what, accepting(bad), api.ErrArg, local)
				p.gives(t, what, accepting(bad), api.ErrArg, local)
				p.gives(t, what, locally(offer), api.ErrState, local)
				p.gives(t, what, accepting(taking(offer)), api.OK, stable)
				if got, own, ok := p.Agreed(); !ok || !same(got, offer) || !same(own, taking(offer)) {
					t.Errorf("%s: %s, %s", what, short(got), short(own))
				}
			}
		}
	}
	for rule := 1; rule <= 10; rule++ {
		if seen[rule] < 3 {
			t.Error(rule, "was broken", seen[rule], "times")
		}
	}
}

// Where there is no local offer no answer is accepted, good or not: not of a remote offer, not of an agreed one.
func TestAcceptWithoutOffer(t *testing.T) {
	offer := row(2, 0)
	for what, begin := range beginnings(offer) {
		for state := range stateNames() {
			if state == local {
				continue
			}
			for _, own := range []api.Desc{taking(offer), offer, {}, taking(row(1, 0))} {
				p := did(t, slices.Concat(begin, into(state, offer))...)
				p.gives(t, what, accepting(own), api.ErrState, state)
			}
		}
		p := did(t, slices.Concat(begin, into(local, offer), []step{accepting(taking(offer))})...)
		p.gives(t, what, accepting(taking(offer)), api.ErrState, stable)
	}
}

// An answer is held against the local offer, not against what was agreed: an older answer, with a Version of then, isn't one.
func TestAcceptIsOfTheNewestOffer(t *testing.T) {
	first, second := row(2, 0), row(3, 0)
	second.Version = 5
	for what, begin := range asAgreed(first) {
		p := did(t, begin...)
		_, old, _ := p.Agreed()
		p.do(t, locally(second))
		p.gives(t, what, accepting(old), api.ErrArg, local)
		p.gives(t, what, accepting(taking(first)), api.ErrArg, local)
		p.gives(t, what, accepting(taking(second)), api.OK, stable)
	}
}

// What layer 9 makes of an offer is accepted from the other side, and both sides have agreed alike.
func TestTwoSides(t *testing.T) {
	one, other := did(t), did(t)
	for n := range api.MostParts + 1 {
		for _, c := range configs() {
			offer := row(n, 0)
			offer.Version = uint64(n)
			one.gives(t, "one", locally(offer), api.OK, local)
			other.gives(t, "other", remotely(offer), api.OK, remote)
			own, e := answer.Make(offer, c, id, name, password, key)
			other.gives(t, "other", answering(c, id, name, password, key), e, stable)
			one.gives(t, "one", accepting(own), api.OK, stable)
			a, b, _ := one.Agreed()
			x, y, _ := other.Agreed()
			if !same(a, x) || !same(b, y) {
				t.Errorf("%s, %s", short(b), short(y))
			}
			one, other = other, one
		}
	}
}
