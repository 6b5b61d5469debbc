package jsep_test

import (
	"fmt"
	"strconv"
	"strings"
	"testing"

	"rostrum/answer"
	"rostrum/api"
	"rostrum/desc"
	"rostrum/jsep"
	"rostrum/judge"
)

// What is handed to Answer, where a test has nothing else to say.
const (
	id       = 7
	name     = "self"
	password = "9876543210_ZYXWVUTSRQP"
)

var key = [30]byte{0: 1, 13: 200, 29: 255}

// The states, as the chapter numbers them.
const (
	stable, local, remote, closed = 0, 1, 2, 3
)

func stateNames() []string { return []string{"stable", "local", "remote", "closed"} }

// config can do most of what the offers below ask for.
func config() api.Config {
	return api.Config{
		Codecs: []api.Codec{
			{Type: 1, Name: "H264", Clock: 90000, Channels: 1, Feedback: []string{"nack pli"}},
			{Type: 96, Name: "opus", Clock: 48000, Channels: 2},
			{Type: 2, Name: "VP8", Clock: 90000, Channels: 1, Feedback: []string{"nack", "nack pli"}},
		},
		Exts: []string{"urn:level", "urn:mid"},
		Data: true,
	}
}

func video(mid string) api.Media {
	return api.Media{
		Kind: api.Video, Port: 9, Mid: mid, Direction: api.Send + api.Recv,
		Codecs: []api.Codec{
			{Type: 96, Name: "VP8", Clock: 90000, Channels: 1, Feedback: []string{"nack", "transport-cc", "nack pli"}},
			{Type: 102, Name: "H264", Clock: 90000, Channels: 1, Format: "profile-level-id=42e01f", Feedback: []string{"nack", "nack pli"}},
		},
		Exts:    []api.Ext{{ID: 3, URI: "urn:mid"}, {ID: 14, URI: "urn:other"}, {ID: 1, URI: "urn:level"}},
		Rids:    []string{"q", "h", "f"},
		Sending: true,
		Sources: []uint32{4294967295, 0, 77},
		Crypto:  []api.Crypto{{Tag: 3, Key: [30]byte{1: 5, 29: 9}}},
	}
}

func audio(mid string) api.Media {
	return api.Media{
		Kind: api.Audio, Port: 9, Mid: mid, Direction: api.Send,
		Codecs: []api.Codec{
			{Type: 111, Name: "opus", Clock: 48000, Channels: 2, Format: "useinbandfec=1", Feedback: []string{"transport-cc"}},
			{Type: 0, Name: "PCMU", Clock: 8000, Channels: 1},
		},
		Exts:   []api.Ext{{ID: 1, URI: "urn:level"}},
		Crypto: []api.Crypto{{Tag: 1}},
	}
}

func data(mid string) api.Media {
	return api.Media{Kind: api.Data, Port: 9, Mid: mid, Direction: api.Send + api.Recv, SctpPort: 5000}
}

func kinds() []func(string) api.Media { return []func(string) api.Media{video, audio, data} }

// of is an offer of the Media, all bundled.
func of(list ...api.Media) api.Desc {
	d := api.Desc{ID: 1, Version: 4, Name: "peer", Password: "0123456789_abcdefghiJK", Media: list}
	for _, m := range list {
		d.Bundle = append(d.Bundle, m.Mid)
	}
	return d
}

// row is an offer of n Media, their Mids told by their places, of all kinds in turn from the one at first on.
func row(n, first int) api.Desc {
	var list []api.Media
	for i := range n {
		list = append(list, kinds()[(first+i)%len(kinds())]("m"+strconv.Itoa(i)))
	}
	return of(list...)
}

// taking is an answer that takes all of a good offer, by each of layer 10's rules.
func taking(offer api.Desc) api.Desc {
	d := api.Desc{ID: 9, Version: offer.Version, Name: "them", Password: "abcdefghijklmnopqrstuv"}
	for _, m := range copied(offer, false).Media {
		if m.Port == 0 || !strings.Contains(" "+strings.Join(offer.Bundle, " ")+" ", " "+m.Mid+" ") {
			m.Port = 0
			d.Media = append(d.Media, m)
			continue
		}
		m.Direction = []int{0, api.Recv, api.Send, api.Send + api.Recv}[m.Direction]
		m.Sending = len(m.Rids) > 0 && !m.Sending
		m.Sources = nil
		for i := range m.Crypto {
			m.Crypto[i].Key = [30]byte{7: 7}
		}
		d.Bundle = append(d.Bundle, m.Mid)
		d.Media = append(d.Media, m)
	}
	return d
}

// model is a session as the chapter's words tell it. Its lists are shared with what tests hand in and never change.
type model struct {
	state         int
	pending       api.Desc
	agreed        bool
	offer, answer api.Desc
}

func (m *model) fits(offer api.Desc) bool {
	if !m.agreed {
		return true
	}
	for i, old := range m.offer.Media {
		if i == len(offer.Media) || offer.Media[i].Kind != old.Kind || offer.Media[i].Mid != old.Mid {
			return false
		}
	}
	return true
}

func (m *model) offered(offer api.Desc, own, other int) api.Errno {
	if m.state == closed || m.state == own {
		return api.ErrState
	}
	if m.state == other {
		return api.ErrGlare
	}
	if !desc.Good(offer) || !m.fits(offer) {
		return api.ErrArg
	}
	m.state, m.pending = own, offer
	return api.OK
}

func (m *model) agree(answer api.Desc) {
	m.state, m.agreed, m.offer, m.answer = stable, true, m.pending, answer
}

// step is a call, and what the chapter's words make of it.
type step struct {
	what  string
	given any
	call  func(s *jsep.Session) (api.Desc, api.Errno)
	meant func(m *model) (api.Desc, api.Errno)
}

func (x step) String() string { return x.what + " " + short(x.given) }

// plain is a step whose call answers a number alone.
func plain(what string, given any, call func(s *jsep.Session) api.Errno, meant func(m *model) api.Errno) step {
	return step{
		what:  what,
		given: given,
		call:  func(s *jsep.Session) (api.Desc, api.Errno) { return api.Desc{}, call(s) },
		meant: func(m *model) (api.Desc, api.Errno) { return api.Desc{}, meant(m) },
	}
}

func remotely(offer api.Desc) step {
	return plain("Remote", offer,
		func(s *jsep.Session) api.Errno { return s.Remote(offer) },
		func(m *model) api.Errno { return m.offered(offer, remote, local) })
}

func locally(offer api.Desc) step {
	return plain("Local", offer,
		func(s *jsep.Session) api.Errno { return s.Local(offer) },
		func(m *model) api.Errno { return m.offered(offer, local, remote) })
}

func accepting(own api.Desc) step {
	return plain("Accept", own,
		func(s *jsep.Session) api.Errno { return s.Accept(own) },
		func(m *model) api.Errno {
			if m.state != local {
				return api.ErrState
			}
			if judge.Check(m.pending, own) != 0 {
				return api.ErrArg
			}
			m.agree(own)
			return api.OK
		})
}

func answering(c api.Config, id uint64, name, password string, key [30]byte) step {
	return step{
		what:  "Answer",
		given: []any{c, id, name, password},
		call:  func(s *jsep.Session) (api.Desc, api.Errno) { return s.Answer(c, id, name, password, key) },
		meant: func(m *model) (api.Desc, api.Errno) {
			if m.state != remote {
				return api.Desc{}, api.ErrState
			}
			own, e := answer.Make(m.pending, c, id, name, password, key)
			if e != api.OK {
				return api.Desc{}, e
			}
			m.agree(own)
			return own, api.OK
		},
	}
}

// replying is an answer by what all tests hand in.
func replying() step { return answering(config(), id, name, password, key) }

func goingBack() step {
	return plain("Back", nil,
		func(s *jsep.Session) api.Errno { return s.Back() },
		func(m *model) api.Errno {
			if m.state != local && m.state != remote {
				return api.ErrState
			}
			m.state = stable
			return api.OK
		})
}

func closing() step {
	return plain("Close", nil,
		func(s *jsep.Session) api.Errno { s.Close(); return api.OK },
		func(m *model) api.Errno { m.state = closed; return api.OK })
}

// pair is a session and its model, which have gone the same steps.
type pair struct {
	*jsep.Session
	model model
}

// did takes the steps with a new session and its model, and asks behind each whether they are alike.
func did(t *testing.T, steps ...step) *pair {
	t.Helper()
	p := &pair{Session: jsep.New()}
	p.like(t, "New")
	for _, x := range steps {
		p.do(t, x)
	}
	return p
}

// do takes a step, and tells its error.
func (p *pair) do(t *testing.T, x step) api.Errno {
	t.Helper()
	was := p.model.state
	got, e := x.call(p.Session)
	want, wanted := x.meant(&p.model)
	if e != wanted || !desc.Same(got, want) {
		t.Errorf("%v where it's %s: %s, %v, not %s, %v", x, stateNames()[was], short(got), e, short(want), wanted)
	}
	p.like(t, x)
	return e
}

// like asks whether what the session tells of itself is what the model does.
func (p *pair) like(t *testing.T, what any) {
	t.Helper()
	if got := p.State(); got != p.model.state {
		t.Errorf("behind %v: state %d, not %d", what, got, p.model.state)
	}
	offer, own, ok := p.Agreed()
	if ok != p.model.agreed || !desc.Same(offer, p.model.offer) || !desc.Same(own, p.model.answer) {
		t.Errorf("behind %v: agreed: %s, %s, %v, not %s, %s", what, short(offer), short(own), ok, short(p.model.offer), short(p.model.answer))
	}
}

// gives takes a step that is to answer the error, and to leave the session in the state.
func (p *pair) gives(t *testing.T, what string, x step, want api.Errno, state int) {
	t.Helper()
	if e := p.do(t, x); e != want || p.State() != state {
		t.Errorf("%s: %v: %v, state %d, not %v, %d", what, x, e, p.State(), want, state)
	}
}

// asAgreed are the ways to an agreement of the offer, one from each side.
func asAgreed(offer api.Desc) map[string][]step {
	return map[string][]step{
		"answered": {remotely(offer), replying()},
		"accepted": {locally(offer), accepting(taking(offer))},
	}
}

// into are the steps from stable into the state, by the offer where there is one.
func into(state int, offer api.Desc) []step {
	return [][]step{nil, {locally(offer)}, {remotely(offer)}, {closing()}}[state]
}

// short is what x is, not too long.
func short(x any) string {
	s := fmt.Sprintf("%+v", x)
	return strings.ReplaceAll(s[:min(len(s), 500)], " 0 0 0 0 0", "")
}
