package jsep_test

import (
	"slices"
	"strconv"
	"strings"
	"testing"

	"rostrum/api"
	"rostrum/desc"
	"rostrum/jsep"
)

// asksFit asks, by each side, whether an offer fits what is agreed, by each way to the agreement, and whether it does where nothing is.
func asksFit(t *testing.T, what string, agreed, offer api.Desc, want bool) {
	t.Helper()
	if !desc.Good(offer) || !desc.Good(agreed) {
		t.Fatal(what, "not good:", short(offer))
	}
	for name, begin := range asAgreed(agreed) {
		asksFitBehind(t, what+", "+name, begin, offer, want)
	}
	asksFitBehind(t, what+", where nothing is agreed", nil, offer, true)
}

func asksFitBehind(t *testing.T, what string, begin []step, offer api.Desc, want bool) {
	t.Helper()
	e, states := api.ErrArg, [2]int{stable, stable}
	if want {
		e, states = api.OK, [2]int{remote, local}
	}
	did(t, begin...).gives(t, what, remotely(offer), e, states[0])
	did(t, begin...).gives(t, what, locally(offer), e, states[1])
}

// As many Media, more and fewer, alike in all but their number.
func TestNumbersOfMedia(t *testing.T) {
	for first := range kinds() {
		for n := range api.MostParts + 1 {
			for m := range api.MostParts + 1 {
				asksFit(t, strconv.Itoa(m)+" where "+strconv.Itoa(n)+" are agreed", row(n, first), row(m, first), m >= n)
			}
		}
	}
}

// otherKinds are Media of m's Mid, but of other Kinds.
func otherKinds(m api.Media) []api.Media {
	var list []api.Media
	for _, media := range kinds() {
		if x := media(m.Mid); x.Kind != m.Kind {
			list = append(list, x)
		}
	}
	return list
}

// otherMids are Media as m is, but of other Mids: most are much like it.
func otherMids(m api.Media) []api.Media {
	var list []api.Media
	for _, mid := range []string{"other", m.Mid + "0", m.Mid[:1], strings.ToUpper(m.Mid), m.Mid + "-", "x" + m.Mid[1:]} {
		x := m
		x.Mid = mid
		list = append(list, x)
	}
	return list
}

// put is d with another Media in the place of the one at i.
func put(d api.Desc, i int, m api.Media) api.Desc {
	d = copied(d, false)
	d.Media[i] = m
	return of(d.Media...)
}

// One Kind alone or one Mid alone differs, at each place, with as many Media and with more; behind the agreed ones it may.
func TestOneThatDiffers(t *testing.T) {
	for first := range kinds() {
		for _, n := range []int{1, 2, 3, 5, 7, api.MostParts} {
			for _, more := range []int{0, 1, api.MostParts - n} {
				if n+more > api.MostParts {
					continue
				}
				offer := row(n+more, first)
				for i, m := range offer.Media {
					for _, x := range slices.Concat(otherKinds(m), otherMids(m)) {
						what := strconv.Itoa(x.Kind) + x.Mid + " at " + strconv.Itoa(i) + " of " + strconv.Itoa(n)
						asksFit(t, what, row(n, first), put(offer, i, x), i >= n)
					}
				}
			}
		}
	}
}

// The same Media at other places don't fit.
func TestOtherOrders(t *testing.T) {
	const n = 4
	for first := range kinds() {
		for i := range n {
			for j := range i {
				offer := row(n, first)
				offer.Media[i], offer.Media[j] = offer.Media[j], offer.Media[i]
				asksFit(t, "two change places", row(n, first), offer, false)
			}
		}
		for i := range n + 1 {
			offer := row(n, first)
			offer.Media = slices.Insert(offer.Media, i, data("new"))
			asksFit(t, "one comes between", row(n, first), of(offer.Media...), i == n)
		}
		for i := range n {
			offer := row(n, first)
			offer.Media = append(slices.Delete(offer.Media, i, i+1), data("new"))
			asksFit(t, "one goes", row(n, first), of(offer.Media...), false)
		}
	}
}

// Nothing but Kinds and Mids is asked for.
func TestWhatFits(t *testing.T) {
	for first := range kinds() {
		agreed := row(3, first)
		for what, change := range map[string]func(d *api.Desc){
			"ID":         func(d *api.Desc) { d.ID = 0 },
			"Version":    func(d *api.Desc) { d.Version = 5 },
			"an old one": func(d *api.Desc) { d.Version = 0 },
			"Bundle":     func(d *api.Desc) { d.Bundle = nil },
			"order":      func(d *api.Desc) { slices.Reverse(d.Bundle) },
			"Name":       func(d *api.Desc) { d.Name, d.Password = "other", strings.Repeat("x", 32) },
			"Port":       func(d *api.Desc) { d.Media[0].Port, d.Media[2].Port = 0, 0 },
			"Direction": func(d *api.Desc) {
				for i := range d.Media {
					d.Media[i].Direction = 0
				}
			},
			"all else": func(d *api.Desc) {
				for i, m := range d.Media {
					d.Media[i] = api.Media{Kind: m.Kind, Mid: m.Mid, SctpPort: min(m.SctpPort, 1)}
					if m.Kind != api.Data {
						d.Media[i].Codecs = []api.Codec{{Type: 5, Name: "x", Clock: 1, Channels: 1}}
					}
				}
			},
		} {
			offer := copied(agreed, false)
			change(&offer)
			asksFit(t, what, agreed, offer, true)
			asksFit(t, what+", the other way about", offer, agreed, true)
		}
	}
}

// What the answer refused still has its place: an offer of another Kind or Mid there doesn't fit, whether the place is refused
// by a Port of 0, by the Bundle, or by the other side.
func TestRefusedPlaces(t *testing.T) {
	for first := range kinds() {
		for i := range 3 {
			open := row(3, first)
			noPort, noBundle := copied(open, false), copied(open, false)
			noPort.Media[i].Port = 0
			noBundle.Bundle = slices.Delete(noBundle.Bundle, i, i+1)
			refusal := taking(open)
			refusal.Media[i].Port, refusal.Bundle = 0, slices.Delete(refusal.Bundle, i, i+1)
			for what, begin := range map[string][]step{
				"no Port":                  {remotely(noPort), replying()},
				"no Port, accepted":        {locally(noPort), accepting(taking(noPort))},
				"not bundled":              {remotely(noBundle), replying()},
				"not bundled, accepted":    {locally(noBundle), accepting(taking(noBundle))},
				"nothing that can be done": {remotely(open), answering(api.Config{}, id, name, password, key)},
				"refused":                  {locally(open), accepting(refusal)},
			} {
				p := did(t, begin...)
				if _, own, ok := p.Agreed(); !ok || own.Media[i].Port != 0 {
					t.Fatal(what, short(own))
				}
				for _, x := range slices.Concat(otherKinds(open.Media[i]), otherMids(open.Media[i])) {
					asksFitBehind(t, what, begin, put(open, i, x), false)
				}
				asksFitBehind(t, what, begin, open, true)
				asksFitBehind(t, what, begin, noPort, true)
				asksFitBehind(t, what, begin, row(2, first), false)
			}
		}
	}
}

// An agreement's answer has its offer's Kinds and Mids, so that no offer fits the one alone.
func TestAnswersFitTheirOffers(t *testing.T) {
	offers := []api.Desc{of(), row(1, 1), row(3, 0), row(api.MostParts, 2), put(row(4, 0), 2, video("x"))}
	for _, offer := range offers {
		for what, begin := range asAgreed(offer) {
			for _, later := range offers {
				p := did(t, begin...)
				_, own, _ := p.Agreed()
				inPlace := func(a, b api.Media) bool { return a.Kind == b.Kind && a.Mid == b.Mid }
				n := len(own.Media)
				fits := len(later.Media) >= n && slices.EqualFunc(own.Media, later.Media[:min(n, len(later.Media))], inPlace)
				asksFitBehind(t, what, begin, later, fits)
			}
		}
	}
}

// agreeing are the steps to an agreement of the offer, from the one side or the other in turn.
func agreeing(i int, offer api.Desc) []step {
	return asAgreed(offer)[[]string{"answered", "accepted"}[i%2]]
}

// Each later offer is held against the newest agreement, not against an older one.
func TestNewestAgreement(t *testing.T) {
	for start := range 4 {
		var steps []step
		var mids []api.Media
		for i, media := range []api.Media{audio("a"), video("b"), data("c"), audio("d")} {
			mids = append(mids, media)
			newest := of(slices.Clone(mids)...)
			newest.Version = uint64(i)
			steps = append(steps, agreeing(start>>(i%2), newest)...)
			p := did(t, steps...)
			if offer, _, ok := p.Agreed(); !ok || !same(offer, newest) {
				t.Fatal(short(offer), ok)
			}
			for n := range len(mids) + 1 {
				asksFitBehind(t, "an older one", steps, of(mids[:n]...), n == len(mids))
				if n > 0 {
					other := put(newest, n-1, data("other"))
					asksFitBehind(t, "as an older one allows", steps, other, false)
				}
			}
			asksFitBehind(t, "a new one", steps, of(append(slices.Clone(mids), data("new"))...), true)
		}
	}
}

// An offer that was taken back, or refused, or whose answer was, is nothing that a later one is held against.
func TestOffersThatCameToNothing(t *testing.T) {
	agreed := row(2, 0)
	for name, begin := range beginnings(agreed) {
		for _, more := range []api.Desc{row(3, 0), row(api.MostParts, 0), put(row(4, 0), 2, video("x"))} {
			bad := taking(more)
			bad.Version++
			badName := answering(config(), id, "abc", password, key)
			for what, steps := range map[string][]step{
				"taken back, remote":       {remotely(more), goingBack()},
				"taken back, local":        {locally(more), goingBack()},
				"its answer refused":       {locally(more), accepting(bad), goingBack()},
				"not answered":             {remotely(more), badName, goingBack()},
				"refused by glare":         {locally(agreed), remotely(more), goingBack()},
				"refused by glare, remote": {remotely(agreed), locally(more), goingBack()},
				"refused by the state":     {locally(agreed), locally(more), goingBack()},
				"refused, remote":          {remotely(agreed), remotely(more), goingBack()},
				"refused as it isn't good": {remotely(spoiltName(more)), locally(spoiltName(more))},
			} {
				steps = slices.Concat(begin, steps)
				asksFitBehind(t, name+", "+what, steps, agreed, true)
				asksFitBehind(t, name+", "+what, steps, put(row(3, 0), 2, audio("new")), true)
			}
		}
	}
}

func spoiltName(d api.Desc) api.Desc {
	d.Name = "abc"
	return d
}

// Where nothing was agreed all fit, whatever was offered; an agreement of no Media is one that all fit.
func TestNoAgreement(t *testing.T) {
	steps := []step{remotely(row(5, 0)), goingBack(), locally(row(4, 1)), goingBack()}
	for _, offer := range []api.Desc{of(), row(1, 2), row(api.MostParts, 1), of(data("x"))} {
		asksFitBehind(t, "nothing agreed", steps, offer, true)
		asksFit(t, "no Media agreed", of(), offer, true)
	}
	s := jsep.New()
	s.Remote(of())
	s.Answer(config(), id, name, password, key)
	if offer, own, ok := s.Agreed(); !ok || len(offer.Media) != 0 || len(own.Media) != 0 || own.Name != name {
		t.Error(short(offer), short(own), ok)
	}
}
