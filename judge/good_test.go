package judge_test

import (
	"math"
	"slices"
	"strconv"
	"strings"
	"testing"
	"testing/quick"

	"rostrum/api"
	"rostrum/desc"
	"rostrum/judge"
)

// spoilt are ways in which a Desc of at least one Media isn't good, whatever its Media are.
func spoilt() map[string]func(*api.Desc) {
	return map[string]func(*api.Desc){
		"nothing":             func(d *api.Desc) { *d = api.Desc{} },
		"no Name":             func(d *api.Desc) { d.Name = "" },
		"a short Name":        func(d *api.Desc) { d.Name = "abc" },
		"a long Name":         func(d *api.Desc) { d.Name = strings.Repeat("a", 33) },
		"a Name, no word":     func(d *api.Desc) { d.Name = "ab d" },
		"a short Password":    func(d *api.Desc) { d.Password = strings.Repeat("a", 21) },
		"a long Password":     func(d *api.Desc) { d.Password = strings.Repeat("a", 33) },
		"a Password, no word": func(d *api.Desc) { d.Password = strings.Repeat("a", 22) + "." },
		"alike in Bundle":     func(d *api.Desc) { d.Bundle = append(d.Bundle, d.Bundle[0]) },
		"others in Bundle":    func(d *api.Desc) { d.Bundle = append(d.Bundle, "other") },
		"alike Mids":          func(d *api.Desc) { d.Media = append(d.Media, data(d.Media[0].Mid)) },
		"no Media":            func(d *api.Desc) { d.Media = nil },
		"many Media":          func(d *api.Desc) { d.Media = row(api.MostParts+1, 0).Media },
		"very many Media":     func(d *api.Desc) { d.Media = slices.Repeat(d.Media, 1<<7) },
		"an empty Mid":        func(d *api.Desc) { d.Media[0].Mid, d.Bundle = "", nil },
		"a long Mid":          func(d *api.Desc) { d.Media[0].Mid, d.Bundle = strings.Repeat("m", 17), nil },
		"Kind 0":              func(d *api.Desc) { d.Media[0].Kind = 0 },
		"Kind 4":              func(d *api.Desc) { d.Media[0].Kind = 4 },
		"Port 1":              func(d *api.Desc) { d.Media[0].Port = 1 },
		"Port -9":             func(d *api.Desc) { d.Media[0].Port = -9 },
		"Direction 4":         func(d *api.Desc) { d.Media[0].Direction = 4 },
		"Direction -1":        func(d *api.Desc) { d.Media[0].Direction = -1 },
		"an odd SctpPort":     func(d *api.Desc) { d.Media[0].SctpPort = math.MaxInt },
		"Types alike":         func(d *api.Desc) { d.Media[0].Codecs = append(video("").Codecs, video("").Codecs[0]) },
		"too many codecs":     func(d *api.Desc) { d.Media[0].Codecs = slices.Repeat(video("").Codecs, 5) },
		"IDs alike":           func(d *api.Desc) { d.Media[0].Exts = append(video("").Exts, video("").Exts[0]) },
		"Rids alike":          func(d *api.Desc) { d.Media[0].Rids = []string{"q", "q"} },
		"Sending nothing":     func(d *api.Desc) { d.Media[0].Rids, d.Media[0].Sending = nil, true },
		"two Crypto":          func(d *api.Desc) { d.Media[0].Crypto = []api.Crypto{{Tag: 3}, {Tag: 9}} },
		"Tag 10":              func(d *api.Desc) { d.Media[0].Crypto = []api.Crypto{{Tag: 10}} },
	}
}

// An offer that isn't good with a good answer, a good offer with an answer that isn't, and both.
func TestNotGood(t *testing.T) {
	for what, spoil := range spoilt() {
		for start := range kinds() {
			for n := 1; n <= api.MostParts; n++ {
				offer, answer := row(n, start), taking(row(n, start))
				badOffer, badAnswer := copied(offer, false), copied(answer, false)
				spoil(&badOffer)
				spoil(&badAnswer)
				if desc.Good(badOffer) || desc.Good(badAnswer) || !desc.Good(offer) || !desc.Good(answer) {
					t.Fatal(what)
				}
				tells(t, what+", of the offer", badOffer, answer, 1)
				tells(t, what+", of the answer", offer, badAnswer, 1)
				tells(t, what+", of both", badOffer, badAnswer, 1)
				tells(t, what+", of both, alike", badOffer, badOffer, 1)
			}
		}
	}
}

// Good ones with a Media less or more, taken or not, at whatever end.
func TestNumbersOfMedia(t *testing.T) {
	for n := range api.MostParts + 1 {
		for m := range api.MostParts + 1 {
			want := 0
			if n != m {
				want = 1
			}
			for start := range kinds() {
				offer, answer := row(n, start), taking(row(m, start))
				tells(t, "taken", offer, answer, want)
				for i := min(n, m); i < m; i++ {
					refuse(&answer, i)
				}
				tells(t, "the more aren't taken", offer, answer, want)
				for i := range m {
					refuse(&answer, i)
				}
				tells(t, "none is taken", offer, answer, want)
			}
			if n < m {
				answer := taking(row(m, 0))
				answer.Media = answer.Media[m-n:]
				answer.Bundle = answer.Bundle[m-n:]
				tells(t, "the first ones less", row(m, 0), answer, 1)
			}
		}
	}
}

func TestNoMedia(t *testing.T) {
	offer := of()
	answer := taking(offer)
	tells(t, "no Media", offer, answer, 0)
	tells(t, "the offer itself", offer, offer, 0)
	answer.ID = math.MaxUint64
	tells(t, "another ID", offer, answer, 0)
	answer.Version++
	tells(t, "another Version", offer, answer, 10)
	answer.Bundle = []string{"m0"}
	tells(t, "a Bundle of nothing", offer, answer, 1)
	tells(t, "nothing", api.Desc{}, api.Desc{}, 1)
	tells(t, "no answer", offer, api.Desc{}, 1)
	tells(t, "no offer", api.Desc{}, taking(offer), 1)
}

// Name, Password and ID of the answer, and the offer's, are nothing that a rule asks for but that they are good.
func TestNamesAndIDs(t *testing.T) {
	for _, name := range []string{"peer", "self", "-_-_", strings.Repeat("Z", 32)} {
		for _, password := range []string{strings.Repeat("0", 22), strings.Repeat("-", 32)} {
			for _, id := range []uint64{0, 1, 7, math.MaxUint64} {
				offer := row(3, 0)
				answer := taking(offer)
				answer.ID, answer.Name, answer.Password = id, name, password
				tells(t, "the answer's", offer, answer, 0)
				offer.ID, offer.Name, offer.Password = id, name, password
				tells(t, "the offer's, too", offer, answer, 0)
			}
		}
	}
}

// Each Kind of an offer with each of an answer, taken and not.
func TestKinds(t *testing.T) {
	for i, offered := range kinds() {
		for j, own := range kinds() {
			want := 0
			if i != j {
				want = 2
			}
			a := own("m")
			if i == j {
				a = fit(a)
			}
			one(t, "taken", offered("m"), a, want)
			a.Port = 0
			one(t, "not taken", offered("m"), a, want)
			o := offered("m")
			o.Port = 0
			one(t, "not open", o, a, want)
		}
	}
}

// Mids of all sorts beside each other, and two that are changed about.
func TestMids(t *testing.T) {
	mids := []string{"a", "A", "aa", "b", "0", "-", "_", strings.Repeat("a", 16)}
	for i, offered := range mids {
		for j, own := range mids {
			for _, media := range kinds() {
				a := fit(media(own))
				want := 2
				if i == j {
					want = 0
				}
				one(t, offered+" and "+own, media(offered), a, want)
				a.Port = 0
				one(t, offered+" and "+own+", not taken", media(offered), a, want)
			}
		}
	}
	for n := 2; n <= api.MostParts; n++ {
		for _, media := range kinds() {
			for j := range n {
				for i := range j {
					offer := row(n, 0)
					for k := range n {
						offer.Media[k] = media(offer.Media[k].Mid)
					}
					answer := taking(offer)
					answer.Media[i], answer.Media[j] = answer.Media[j], answer.Media[i]
					answer.Bundle[i], answer.Bundle[j] = answer.Bundle[j], answer.Bundle[i]
					tells(t, "changed about", offer, answer, 2)
				}
			}
		}
	}
}

// Each Port of an offer with each of an answer.
func TestPorts(t *testing.T) {
	for _, media := range kinds() {
		for _, x := range []struct{ offered, own, want int }{
			{0, 0, 0}, {9, 0, 0}, {9, 9, 0}, {0, 9, 3}, {9, 8, 1}, {8, 9, 1}, {0, -1, 1}, {10, 0, 1}, {0, 1, 1}, {65536, 65536, 1},
		} {
			o, a := media("m"), fit(media("m"))
			o.Port, a.Port = x.offered, x.own
			one(t, strconv.Itoa(x.offered)+" and "+strconv.Itoa(x.own), o, a, x.want)
		}
	}
}

// What isn't taken is asked for its Kind and its Mid alone.
func TestNotTaken(t *testing.T) {
	sets := map[string]func(o, a *api.Media){
		"Codecs":           func(o, a *api.Media) { a.Codecs = []api.Codec{{Type: 1, Name: "x", Clock: 1, Channels: 1}} },
		"Codecs turned":    func(o, a *api.Media) { slices.Reverse(a.Codecs) },
		"Feedback":         func(o, a *api.Media) { a.Codecs[0].Feedback = []string{"other"} },
		"Exts":             func(o, a *api.Media) { a.Exts = []api.Ext{{ID: 7, URI: "other"}} },
		"Directions":       func(o, a *api.Media) { o.Direction, a.Direction = api.Send, api.Send },
		"other Directions": func(o, a *api.Media) { o.Direction, a.Direction = 0, api.Send+api.Recv },
		"Rids":             func(o, a *api.Media) { a.Rids = []string{"other"} },
		"Sending":          func(o, a *api.Media) { a.Sending = o.Sending },
		"no Crypto":        func(o, a *api.Media) { a.Crypto = nil },
		"a Crypto":         func(o, a *api.Media) { o.Crypto, a.Crypto = nil, []api.Crypto{{Tag: 1}} },
		"Tags":             func(o, a *api.Media) { a.Crypto = []api.Crypto{{Tag: 1}} },
		"nothing":          func(o, a *api.Media) { *a = api.Media{Kind: a.Kind, Mid: a.Mid, Codecs: a.Codecs} },
	}
	for n := 1; n <= api.MostParts; n++ {
		for i := range n {
			for _, media := range streams() {
				for what, set := range sets {
					for _, port := range []int{0, 9} {
						offer := row(n, i)
						offer.Media[i] = media(offer.Media[i].Mid)
						offer.Media[i].Port = port
						answer := copied(taking(offer), false)
						set(&offer.Media[i], &answer.Media[i])
						refuse(&answer, i)
						tells(t, what, offer, answer, 0)
						unbundle(&offer, i)
						tells(t, what+", not bundled", offer, answer, 0)
					}
				}
			}
		}
	}
	for direction := range 4 {
		o, a := data("d"), data("d")
		o.Direction, a.Direction, a.Port = 0, direction, 0
		one(t, "Data", o, a, 0)
	}
}

// Whatever Check is given, it ends and tells one of its numbers.
func TestAnyInput(t *testing.T) {
	holds := func(offer, answer api.Desc) bool {
		return judge.Check(offer, answer) == 1 && judge.Check(row(2, 0), answer) == 1 && judge.Check(offer, taking(row(2, 0))) == 1
	}
	if err := quick.Check(holds, &quick.Config{MaxCount: 300}); err != nil {
		t.Error(err)
	}
	odd := func(m api.Media, good bool) bool {
		offer := row(3, 0)
		answer := taking(offer)
		if good {
			m.Kind, m.Port, m.Mid = answer.Media[1].Kind, answer.Media[1].Port, answer.Media[1].Mid
		}
		answer.Media[1] = m
		got := judge.Check(offer, answer)
		return got == first(broken(offer, answer)) && judge.Check(answer, offer) == first(broken(answer, offer))
	}
	if err := quick.Check(odd, &quick.Config{MaxCount: 300}); err != nil {
		t.Error(err)
	}
}
