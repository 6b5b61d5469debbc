package jsep_test

import (
	"math/rand"
	"slices"
	"strconv"
	"testing"

	"rostrum/api"
)

// few are steps of which rows in each order are walked.
func few() []step {
	one, two, unlike := of(data("a")), of(data("a"), audio("b")), of(audio("a"))
	return []step{
		remotely(one), remotely(two), remotely(unlike), remotely(api.Desc{}),
		locally(one), locally(two), locally(unlike),
		accepting(taking(one)), accepting(taking(two)),
		replying(), answering(config(), id, "", password, key),
		goingBack(), closing(),
	}
}

// All rows of up to five of the steps.
func TestAllShortRows(t *testing.T) {
	steps := few()
	for row := range len(steps) * len(steps) * len(steps) * len(steps) * len(steps) {
		p := did(t)
		for range 5 {
			p.do(t, steps[row%len(steps)])
			row /= len(steps)
		}
		if t.Failed() {
			return
		}
	}
}

// anyOffer is one that fits the agreement of the model or doesn't, or isn't good.
func anyOffer(r *rand.Rand, m *model) api.Desc {
	offer := row(r.Intn(5), 0)
	if r.Intn(2) == 0 {
		offer = of(slices.Clone(m.offer.Media)...)
		if n := len(offer.Media); n < api.MostParts && r.Intn(8) == 0 {
			offer = of(append(offer.Media, kinds()[r.Intn(3)]("m"+strconv.Itoa(n)))...)
		}
	}
	if n := len(offer.Media); n > 0 && r.Intn(6) == 0 {
		i := r.Intn(n)
		offer = put(offer, i, kinds()[r.Intn(3)]([]string{"x", "m" + strconv.Itoa(r.Intn(9))}[r.Intn(2)]))
	}
	offer.Version = r.Uint64()
	for i := range offer.Media {
		if r.Intn(4) == 0 {
			offer.Media[i].Port = 0
		}
	}
	if r.Intn(8) == 0 {
		offer.Name = "abc"
	}
	return offer
}

// anyStep is one of all calls, an answer most often to the offer that there is.
func anyStep(r *rand.Rand, m *model) step {
	switch r.Intn(20) {
	case 0, 1, 2, 3:
		return remotely(anyOffer(r, m))
	case 4, 5, 6, 7:
		return locally(anyOffer(r, m))
	case 8:
		return accepting(taking(anyOffer(r, m)))
	case 9, 10, 11, 12:
		own := taking(m.pending)
		if i := r.Intn(5); i < len(own.Media) {
			own.Media[i].Port = 0
		}
		return accepting(own)
	case 13, 14, 15:
		return answering(configs()[r.Intn(len(configs()))], r.Uint64(), "self"+strconv.Itoa(r.Intn(9)), password, [30]byte{byte(r.Int())})
	case 16:
		return answering(config(), id, badNames()[r.Intn(3)], password, key)
	case 17:
		return accepting(m.answer)
	case 18:
		return goingBack()
	}
	if r.Intn(30) > 0 {
		return replying()
	}
	return closing()
}

// Long rows of calls in any order, some on a few sessions in turn.
func TestLongRows(t *testing.T) {
	r := rand.New(rand.NewSource(11))
	var seen [4][11]int
	agreements := 0
	for range 400 {
		sessions := []*pair{did(t), did(t), did(t)}
		for range 150 {
			p := sessions[r.Intn(len(sessions))]
			was := p.model.state
			x := anyStep(r, &p.model)
			e := p.do(t, x)
			seen[was][e]++
			if (x.what == "Answer" || x.what == "Accept") && e == api.OK {
				agreements++
			}
		}
		for _, p := range sessions {
			p.like(t, "all")
		}
		if t.Failed() {
			return
		}
	}
	for state, errs := range [][]api.Errno{{api.OK, api.ErrArg, api.ErrState}, {api.OK, api.ErrArg, api.ErrState, api.ErrGlare}, {api.OK, api.ErrArg, api.ErrState, api.ErrGlare}, {api.ErrState}} {
		for _, e := range errs {
			if seen[state][e] < 300 {
				t.Error(stateNames()[state], int(e), "only", seen[state][e])
			}
		}
	}
	if agreements < 3000 {
		t.Error("only", agreements)
	}
}
