package ice_test

import (
	"fmt"
	"math"
	"math/rand"
	"slices"
	"testing"

	"rostrum/api"
	"rostrum/ice"
)

// fresh asks whether a is fresh at these moments and no more at those.
func fresh(t *testing.T, a *ice.Agent, yes, no []int64) {
	t.Helper()
	for _, now := range yes {
		if !a.Fresh(now) {
			t.Errorf("not fresh at %d: %v", now, a.Pairs())
		}
	}
	for _, now := range no {
		if a.Fresh(now) {
			t.Errorf("fresh at %d: %v", now, a.Pairs())
		}
	}
}

func TestNewAgent(t *testing.T) {
	a := ice.New(name, password)
	holds(t, "new", a)
	fresh(t, a, nil, []int64{0, 1, -1, 30, math.MinInt64, math.MaxInt64})
}

func TestNilAgent(t *testing.T) {
	var a *ice.Agent
	for _, b := range [][]byte{nil, []byte("x"), laid(0x0101), laid(1), request(user), good(), good(use)} {
		if got, e := a.Handle(b, alice, 5); len(got) != 0 || e != api.ErrArg {
			t.Errorf("%x: %x %v", b, got, e)
		}
	}
	if x, ok := a.Selected(); x != (api.Addr{}) || ok {
		t.Error(x, ok)
	}
	if a.Fresh(0) || a.Fresh(math.MaxInt64) || len(a.Pairs()) != 0 {
		t.Error("fresh or paired")
	}
}

// A nomination goes from one pair to another, and stays where a check has none.
func TestNomination(t *testing.T) {
	a := agent(t)
	accepts(t, a, good(), alice, 1)
	holds(t, "without", a, ice.Pair{Addr: alice, Last: 1})
	accepts(t, a, good(use), bob, 2)
	holds(t, "with", a, ice.Pair{Addr: alice, Last: 1}, ice.Pair{Addr: bob, Last: 2, Nominated: true})
	accepts(t, a, good(), bob, 3)
	accepts(t, a, good(), alice, 4)
	holds(t, "checks without", a, ice.Pair{Addr: alice, Last: 4}, ice.Pair{Addr: bob, Last: 3, Nominated: true})
	accepts(t, a, good(use), alice, 5)
	holds(t, "another", a, ice.Pair{Addr: alice, Last: 5, Nominated: true}, ice.Pair{Addr: bob, Last: 3})
	accepts(t, a, good(use), alice, 6)
	holds(t, "again", a, ice.Pair{Addr: alice, Last: 6, Nominated: true}, ice.Pair{Addr: bob, Last: 3})
	refuses(t, "another key", a, sealed(laid(1, user, priority, use), "x"), bob, api.ErrAuth, refusal(401))
	refuses(t, "an unknown Type", a, good(use, unknown), bob, api.ErrArg, signedRefusal(420))
	refuses(t, "no priority", a, request(user, use), carol, api.ErrArg, signedRefusal(400))
	accepts(t, a, good(use), dave, 7)
	holds(t, "the zero address", a, ice.Pair{Addr: alice, Last: 6}, ice.Pair{Addr: bob, Last: 3}, ice.Pair{Addr: dave, Last: 7, Nominated: true})
}

// The attribute that nominates does so whatever its Value, and wherever it stands.
func TestNominationByEachForm(t *testing.T) {
	long := use
	long.Value = make([]byte, 512)
	for _, b := range [][]byte{good(use), good(long), good(use, use), request(use, user, priority), request(user, use, priority)} {
		a := agent(t, alice)
		accepts(t, a, b, bob, 0)
		holds(t, "nominated", a, ice.Pair{Addr: alice}, ice.Pair{Addr: bob, Nominated: true})
	}
}

func TestConsent(t *testing.T) {
	a := agent(t)
	accepts(t, a, good(), alice, 100)
	fresh(t, a, nil, []int64{100, 101})
	accepts(t, a, good(use), alice, 100)
	fresh(t, a, []int64{100, 101, 129, 130}, []int64{131, 132, 1000, math.MaxInt64})
	fresh(t, a, []int64{99, 0, -1, math.MinInt64}, nil)
	accepts(t, a, good(), alice, 110)
	fresh(t, a, []int64{130, 131, 140}, []int64{141})
}

// What is told to Fresh isn't kept: only checks move the clock.
func TestFreshKeepsNothing(t *testing.T) {
	a := agent(t)
	accepts(t, a, good(use), alice, 100)
	fresh(t, a, nil, []int64{131, math.MaxInt64})
	fresh(t, a, []int64{130, 100, 0}, nil)
	accepts(t, a, good(), alice, 101)
	holds(t, "checked again", a, ice.Pair{Addr: alice, Last: 101, Nominated: true})
}

// Consent is the nominated pair's: other pairs' checks don't renew it, but they move the clock.
func TestConsentOfTheNominatedPair(t *testing.T) {
	a := agent(t)
	accepts(t, a, good(use), alice, 10)
	accepts(t, a, good(), bob, 40)
	fresh(t, a, []int64{0, 40}, []int64{41})
	accepts(t, a, good(), bob, 41)
	fresh(t, a, nil, []int64{0, 10, 40, 41})
	if x, ok := a.Selected(); x != alice || !ok {
		t.Error("selected without consent:", x, ok)
	}
	accepts(t, a, good(use), bob, 41)
	fresh(t, a, []int64{41, 71}, []int64{72})
	accepts(t, a, good(use), alice, 60)
	fresh(t, a, []int64{90}, []int64{91})
}

// What is refused moves the clock, whichever step refuses it, and renews no consent.
func TestRefusedChecksMoveTheClock(t *testing.T) {
	for what, b := range map[string][]byte{
		"no bytes":         nil,
		"no message":       []byte("x"),
		"a response":       laid(0x0101),
		"no name":          request(priority),
		"another name":     request(named("zz:"), priority),
		"another key":      sealed(laid(1, user, priority), "x"),
		"an unknown Type":  good(unknown),
		"a role":           good(role),
		"no priority":      request(user),
		"one pair too few": good(),
	} {
		a := agent(t, bob, carol, dave)
		accepts(t, a, good(use), alice, 10)
		from := alice
		if what == "one pair too few" {
			from = erin
		}
		a.Handle(b, from, 40)
		fresh(t, a, []int64{10, 40}, []int64{41})
		a.Handle(b, from, 41)
		fresh(t, a, nil, []int64{10, 40, 41})
		holds(t, what, a, ice.Pair{Addr: bob}, ice.Pair{Addr: carol}, ice.Pair{Addr: dave}, ice.Pair{Addr: alice, Last: 10, Nominated: true})
		accepts(t, a, good(), alice, 11)
		accepts(t, a, good(), bob, math.MinInt64)
		holds(t, what, a, ice.Pair{Addr: bob, Last: 41}, ice.Pair{Addr: carol}, ice.Pair{Addr: dave}, ice.Pair{Addr: alice, Last: 41, Nominated: true})
	}
}

// Moments that go back don't move the clock, nor do those below 0, where it begins.
func TestMomentsThatGoBack(t *testing.T) {
	a := agent(t)
	accepts(t, a, good(use), alice, 100)
	accepts(t, a, good(), bob, 50)
	accepts(t, a, good(), carol, -1)
	accepts(t, a, good(), dave, math.MinInt64)
	holds(t, "back", a, ice.Pair{Addr: alice, Last: 100, Nominated: true}, ice.Pair{Addr: bob, Last: 100}, ice.Pair{Addr: carol, Last: 100}, ice.Pair{Addr: dave, Last: 100})
	for _, now := range []int64{math.MinInt64, math.MinInt64 + 1, -1, 0} {
		a := agent(t)
		accepts(t, a, good(use), alice, now)
		holds(t, "from the beginning", a, ice.Pair{Addr: alice, Nominated: true})
		fresh(t, a, []int64{math.MinInt64, -1, 0, 30}, []int64{31, math.MaxInt64})
	}
}

func TestMomentsAsGreatAsCanBe(t *testing.T) {
	a := agent(t)
	accepts(t, a, good(use), alice, math.MinInt64)
	fresh(t, a, []int64{0, 30}, []int64{31, math.MaxInt64 - 1, math.MaxInt64})
	accepts(t, a, good(), alice, math.MaxInt64-31)
	fresh(t, a, []int64{math.MinInt64, math.MaxInt64 - 1}, []int64{math.MaxInt64})
	accepts(t, a, good(), bob, math.MaxInt64)
	fresh(t, a, nil, []int64{math.MinInt64, 0, math.MaxInt64})
	accepts(t, a, good(), alice, math.MinInt64)
	fresh(t, a, []int64{math.MinInt64, 0, math.MaxInt64}, nil)
	holds(t, "the greatest", a, ice.Pair{Addr: alice, Last: math.MaxInt64, Nominated: true}, ice.Pair{Addr: bob, Last: math.MaxInt64})
}

// Agents, of one name and password too, don't influence one another.
func TestAgentsApart(t *testing.T) {
	a, b, c := ice.New(name, password), ice.New(name, password), ice.New("zz", password)
	accepts(t, a, good(use), alice, 10)
	accepts(t, b, good(), bob, 5)
	holds(t, "a", a, ice.Pair{Addr: alice, Last: 10, Nominated: true})
	holds(t, "b", b, ice.Pair{Addr: bob, Last: 5})
	refuses(t, "another's name", c, good(), alice, api.ErrAuth, refusal(401))
	accepts(t, c, request(named("zz:"), priority), alice, 0)
}

func TestPairsAreNewMemory(t *testing.T) {
	a := agent(t, alice, bob, carol)
	was := a.Pairs()
	got := a.Pairs()
	got = got[:cap(got)]
	for i := range got {
		got[i] = ice.Pair{Addr: erin, Last: 99, Nominated: true}
	}
	holds(t, "written to", a, was...)
	kept := a.Pairs()
	accepts(t, a, good(use), alice, 7)
	accepts(t, a, good(), dave, 7)
	if !slices.Equal(kept, was) {
		t.Error("an answer that changed behind:", kept)
	}
}

// model is an agent as the chapter's words tell it, of checks that are known to be good or not.
type model struct {
	order []api.Addr
	last  map[api.Addr]int64
	chief *api.Addr
	clock int64
}

func (m *model) check(from api.Addr, now int64, right, nominates bool) api.Errno {
	m.clock = max(m.clock, now)
	_, there := m.last[from]
	switch {
	case !right:
		return api.ErrAuth
	case !there && len(m.order) == 4:
		return api.ErrFull
	case !there:
		m.order = append(m.order, from)
	}
	m.last[from] = m.clock
	if nominates {
		m.chief = &from
	}
	return api.OK
}

func (m *model) pairs() []ice.Pair {
	var all []ice.Pair
	for _, x := range m.order {
		all = append(all, ice.Pair{Addr: x, Last: m.last[x], Nominated: m.chief != nil && *m.chief == x})
	}
	return all
}

func (m *model) fresh(now int64) bool {
	return m.chief != nil && max(now, m.clock)-m.last[*m.chief] <= 30
}

func TestScriptsOfChecks(t *testing.T) {
	right, wrong := [2][]byte{good(), good(use)}, [2][]byte{sealed(laid(1, user, priority), "x"), sealed(laid(1, user, priority, use), "x")}
	for seed := range int64(100) {
		r := rand.New(rand.NewSource(seed))
		a, m := ice.New(name, password), &model{last: map[api.Addr]int64{}}
		peers := []api.Addr{alice, bob, carol, dave, erin, {Port: 1}}
		now := int64(0)
		for step := range 60 {
			now += int64(r.Intn(30) - 8)
			from, nominates, bad := peers[r.Intn(len(peers))], r.Intn(4) == 0, r.Intn(5) == 0
			b := right
			if bad {
				b = wrong
			}
			at := 0
			if nominates {
				at = 1
			}
			want := m.check(from, now, !bad, nominates)
			if _, e := a.Handle(b[at], from, now); e != want {
				t.Fatalf("seed %d, step %d: %v, not %v", seed, step, e, want)
			}
			holds(t, fmt.Sprint("seed ", seed, ", step ", step), a, m.pairs()...)
			for _, then := range []int64{0, now, now + 5, now + 29, now + 30, now + 31} {
				if got := a.Fresh(then); got != m.fresh(then) {
					t.Fatalf("seed %d, step %d: Fresh(%d) is %v", seed, step, then, got)
				}
			}
		}
	}
}
