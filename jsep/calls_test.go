package jsep_test

import (
	"slices"
	"testing"

	"rostrum/api"
	"rostrum/desc"
	"rostrum/jsep"
)

// The chapter's examples.
func TestExamples(t *testing.T) {
	s := jsep.New()
	if s.State() != stable {
		t.Error("New:", s.State())
	}
	if e := s.Remote(row(2, 0)); e != api.OK || s.State() != remote {
		t.Error("Remote:", e, s.State())
	}
	if e := s.Remote(row(2, 0)); e != api.ErrState || s.State() != remote {
		t.Error("Remote again:", e, s.State())
	}
	if _, e := s.Answer(config(), id, name, password, key); e != api.OK || s.State() != stable {
		t.Error("Answer:", e, s.State())
	}
	if e := s.Local(row(2, 0)); e != api.OK || s.State() != local {
		t.Error("Local:", e, s.State())
	}
	if e := s.Remote(row(2, 0)); e != api.ErrGlare || s.State() != local {
		t.Error("Remote:", e, s.State())
	}
	if e := s.Back(); e != api.OK || s.State() != stable {
		t.Error("Back:", e, s.State())
	}
}

// A new session is stable and has no agreement, and each is one of its own.
func TestNew(t *testing.T) {
	s, other := jsep.New(), jsep.New()
	if s == nil || other == nil {
		t.Fatal("nil")
	}
	other.Local(row(3, 0))
	other.Accept(taking(row(3, 0)))
	other.Close()
	for _, s := range []*jsep.Session{s, jsep.New()} {
		offer, own, ok := s.Agreed()
		if s.State() != stable || ok || !same(offer, api.Desc{}) || !same(own, api.Desc{}) {
			t.Error(s.State(), ok, short(offer), short(own))
		}
	}
}

// An answer is what layer 9 makes, by hand here, and it is agreed with the offer.
func TestAnswerByHand(t *testing.T) {
	p := did(t, remotely(of(audio("a"), data("d"))))
	got, e := p.Answer(config(), id, name, password, key)
	want := api.Desc{
		ID: id, Version: 4, Bundle: []string{"a", "d"}, Name: name, Password: password,
		Media: []api.Media{
			{
				Kind: api.Audio, Port: 9, Mid: "a", Direction: api.Recv,
				Codecs: []api.Codec{{Type: 111, Name: "opus", Clock: 48000, Channels: 2, Format: "useinbandfec=1"}},
				Exts:   []api.Ext{{ID: 1, URI: "urn:level"}},
				Crypto: []api.Crypto{{Tag: 1, Key: key}},
			},
			{Kind: api.Data, Port: 9, Mid: "d", Direction: api.Send + api.Recv, SctpPort: 5000},
		},
	}
	if e != api.OK || !same(got, want) {
		t.Errorf("%s, %v", short(got), e)
	}
	offer, own, ok := p.Agreed()
	if !ok || !same(offer, of(audio("a"), data("d"))) || !same(own, want) || p.State() != stable {
		t.Errorf("%s, %s, %v, %d", short(offer), short(own), ok, p.State())
	}
}

// What is accepted is agreed as it came: its name, its keys, less than was offered.
func TestAcceptByHand(t *testing.T) {
	own := taking(of(audio("a"), data("d")))
	own.Media[0].Codecs, own.Media[0].Exts = own.Media[0].Codecs[1:], nil
	own.Media[1].SctpPort, own.Media[1].Direction = 77, api.Recv
	p := did(t, locally(of(audio("a"), data("d"))))
	if e := p.Accept(own); e != api.OK || p.State() != stable {
		t.Fatal(e, p.State())
	}
	offer, got, ok := p.Agreed()
	if !ok || !same(offer, of(audio("a"), data("d"))) || !same(got, own) {
		t.Errorf("%s, %s, %v", short(offer), short(got), ok)
	}
}

// A call, and by the state it meets: its error, and the state behind it.
type expected struct {
	call step
	errs [4]api.Errno
	next [4]int
}

// stays are the states behind a call that leaves each as it is.
var stays = [4]int{stable, local, remote, closed}

// expectations are those of a session that has the offer, where it has one.
func expectations(offer api.Desc) []expected {
	bad := copied(offer, false)
	bad.Name = "abc"
	badOwn := taking(offer)
	badOwn.Version++
	badName := answering(config(), id, "abc", password, key)
	return []expected{
		{remotely(offer), [4]api.Errno{api.OK, api.ErrGlare, api.ErrState, api.ErrState}, [4]int{remote, local, remote, closed}},
		{remotely(bad), [4]api.Errno{api.ErrArg, api.ErrGlare, api.ErrState, api.ErrState}, stays},
		{remotely(api.Desc{}), [4]api.Errno{api.ErrArg, api.ErrGlare, api.ErrState, api.ErrState}, stays},
		{locally(offer), [4]api.Errno{api.OK, api.ErrState, api.ErrGlare, api.ErrState}, [4]int{local, local, remote, closed}},
		{locally(bad), [4]api.Errno{api.ErrArg, api.ErrState, api.ErrGlare, api.ErrState}, stays},
		{locally(api.Desc{}), [4]api.Errno{api.ErrArg, api.ErrState, api.ErrGlare, api.ErrState}, stays},
		{replying(), [4]api.Errno{api.ErrState, api.ErrState, api.OK, api.ErrState}, [4]int{stable, local, stable, closed}},
		{badName, [4]api.Errno{api.ErrState, api.ErrState, api.ErrArg, api.ErrState}, stays},
		{accepting(taking(offer)), [4]api.Errno{api.ErrState, api.OK, api.ErrState, api.ErrState}, [4]int{stable, stable, remote, closed}},
		{accepting(badOwn), [4]api.Errno{api.ErrState, api.ErrArg, api.ErrState, api.ErrState}, stays},
		{accepting(api.Desc{}), [4]api.Errno{api.ErrState, api.ErrArg, api.ErrState, api.ErrState}, stays},
		{goingBack(), [4]api.Errno{api.ErrState, api.OK, api.OK, api.ErrState}, [4]int{stable, stable, stable, closed}},
		{closing(), [4]api.Errno{}, [4]int{closed, closed, closed, closed}},
	}
}

// beginnings are the ways to no agreement, and to one from each side, the later ones of two rounds.
func beginnings(offer api.Desc) map[string][]step {
	all := asAgreed(offer)
	all["without an agreement"] = nil
	all["twice"] = slices.Concat(all["answered"], all["accepted"])
	all["twice, the other way about"] = slices.Concat(all["accepted"], all["answered"])
	all["taken back"] = slices.Concat(all["answered"], into(local, offer), []step{goingBack()}, into(remote, offer), []step{goingBack()})
	return all
}

// Each call in each state, without an agreement and with one.
func TestEachCallInEachState(t *testing.T) {
	for _, offer := range []api.Desc{of(), of(data("d")), row(3, 0), row(api.MostParts, 1)} {
		for what, begin := range beginnings(offer) {
			for state := range stateNames() {
				for _, x := range expectations(offer) {
					p := did(t, slices.Concat(begin, into(state, offer))...)
					if p.State() != state {
						t.Fatal(what, p.State())
					}
					p.gives(t, what, x.call, x.errs[state], x.next[state])
				}
			}
		}
	}
}

// What is refused, each call and all of them in a row, leaves the state, the agreement and the offer as they were.
func TestRefusedChangesNothing(t *testing.T) {
	offer, other := row(2, 0), row(3, 0)
	other.Version = 99
	for what, begin := range beginnings(offer) {
		for state := range stateNames() {
			p := did(t, slices.Concat(begin, into(state, offer))...)
			for range 2 {
				for _, x := range slices.Concat(expectations(offer), expectations(other)) {
					if x.errs[state] != api.OK {
						p.gives(t, what, x.call, x.errs[state], state)
					}
				}
			}
			switch state {
			case local:
				p.gives(t, what, accepting(taking(offer)), api.OK, stable)
			case remote:
				p.gives(t, what, replying(), api.OK, stable)
			}
			if got, _, ok := p.Agreed(); ok && !same(got, offer) {
				t.Errorf("%s: %s", what, short(got))
			}
		}
	}
}

// Back from an offer of each side leaves the agreement, and makes way for an offer of each side.
func TestBack(t *testing.T) {
	offer, more := row(2, 0), row(3, 0)
	for what, begin := range beginnings(offer) {
		for _, from := range []step{locally(more), remotely(more)} {
			for _, to := range []step{locally(offer), remotely(offer)} {
				p := did(t, begin...)
				_, had, agreed := p.Agreed()
				p.do(t, from)
				p.gives(t, what, goingBack(), api.OK, stable)
				p.gives(t, what, goingBack(), api.ErrState, stable)
				p.gives(t, what, replying(), api.ErrState, stable)
				p.gives(t, what, accepting(taking(more)), api.ErrState, stable)
				if _, own, ok := p.Agreed(); ok != agreed || !same(own, had) {
					t.Errorf("%s: %s, %v", what, short(own), ok)
				}
				p.do(t, to)
				if p.State() == stable {
					t.Error(what, "no offer")
				}
			}
		}
	}
}

// An answer to an offer that was taken back isn't one to the next offer, nor is it agreed with the former.
func TestBackForgetsTheOffer(t *testing.T) {
	first, second := of(data("a")), of(audio("b"))
	for _, next := range []step{locally(second), remotely(second)} {
		for _, former := range []step{locally(first), remotely(first)} {
			p := did(t, former, goingBack(), next)
			if p.State() == local {
				p.gives(t, "the former's answer", accepting(taking(first)), api.ErrArg, local)
				p.gives(t, "an answer", accepting(taking(second)), api.OK, stable)
			} else {
				p.gives(t, "an answer", replying(), api.OK, stable)
			}
			if offer, _, ok := p.Agreed(); !ok || !same(offer, second) {
				t.Error(short(offer), ok)
			}
		}
	}
}

// Close from each state, twice: the agreement stays, all else is refused.
func TestClose(t *testing.T) {
	offer := row(2, 0)
	for what, begin := range beginnings(offer) {
		for state := range stateNames() {
			p := did(t, slices.Concat(begin, into(state, row(3, 0)))...)
			wantOffer, wantOwn, want := p.Agreed()
			for range 2 {
				p.gives(t, what, closing(), api.OK, closed)
				got, own, ok := p.Agreed()
				if ok != want || !same(got, wantOffer) || !same(own, wantOwn) {
					t.Errorf("%s: %s, %s, %v", what, short(got), short(own), ok)
				}
				for _, x := range expectations(offer)[:12] {
					p.gives(t, what, x.call, api.ErrState, closed)
				}
			}
		}
	}
}

// A nil session answers ErrArg and nothing else.
func TestNil(t *testing.T) {
	var s *jsep.Session
	for range 2 {
		for _, offer := range []api.Desc{{}, row(2, 0)} {
			if e := s.Remote(offer); e != api.ErrArg {
				t.Error("Remote:", e)
			}
			if e := s.Local(offer); e != api.ErrArg {
				t.Error("Local:", e)
			}
			if e := s.Accept(taking(offer)); e != api.ErrArg {
				t.Error("Accept:", e)
			}
		}
		if got, e := s.Answer(config(), id, name, password, key); e != api.ErrArg || !same(got, api.Desc{}) {
			t.Error("Answer:", short(got), e)
		}
		if e := s.Back(); e != api.ErrArg {
			t.Error("Back:", e)
		}
		s.Close()
		if offer, own, ok := s.Agreed(); ok || !same(offer, api.Desc{}) || !same(own, api.Desc{}) {
			t.Error("Agreed:", short(offer), short(own), ok)
		}
		if got := s.State(); got != 0 {
			t.Error("State:", got)
		}
	}
}

// Of two errors that fit the first is told: what the state says, ahead of what the offer is.
func TestTwoErrors(t *testing.T) {
	offer := row(2, 0)
	unfit := row(2, 1)
	if !desc.Good(unfit) {
		t.Fatal("not good")
	}
	for what, begin := range asAgreed(offer) {
		for name, bad := range map[string]api.Desc{"nothing": {}, "one that doesn't fit": unfit, "fewer": row(1, 0), "too many": row(api.MostParts+1, 0)} {
			for state, want := range [][2]api.Errno{{api.ErrArg, api.ErrArg}, {api.ErrGlare, api.ErrState}, {api.ErrState, api.ErrGlare}, {api.ErrState, api.ErrState}} {
				p := did(t, slices.Concat(begin, into(state, offer))...)
				p.gives(t, what+", "+name, remotely(bad), want[0], state)
				p.gives(t, what+", "+name, locally(bad), want[1], state)
			}
		}
	}
	for state, want := range [][2]api.Errno{{api.ErrArg, api.ErrArg}, {api.ErrGlare, api.ErrState}, {api.ErrState, api.ErrGlare}, {api.ErrState, api.ErrState}} {
		p := did(t, into(state, offer)...)
		p.gives(t, "without an agreement", remotely(api.Desc{}), want[0], state)
		p.gives(t, "without an agreement", locally(api.Desc{}), want[1], state)
	}
}
