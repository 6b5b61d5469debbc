package judge_test

import (
	"slices"
	"strconv"
	"testing"

	"rostrum/api"
)

// A way in which a rule is broken at the Media at i. What it changes in a Media's lists it lays anew.
type way struct {
	rule int
	what string
	data bool // It is a way with Data, too.
	lay  func(offer, answer *api.Desc, i int)
}

// part is a way that is of one Media alone.
func part(rule int, what string, data bool, lay func(o, a *api.Media)) way {
	return way{rule, what, data, func(offer, answer *api.Desc, i int) { lay(&offer.Media[i], &answer.Media[i]) }}
}

func ways() []way {
	return slices.Concat(firstWays(), codecWays(), mediaWays(), lastWays())
}

// firstWays are those of the rules 1 to 3.
func firstWays() []way {
	return []way{
		part(1, "the answer's Port", true, func(o, a *api.Media) { a.Port = 5 }),
		part(1, "the answer's Direction", true, func(o, a *api.Media) { a.Direction = 4 }),
		part(1, "the answer's SctpPort", true, func(o, a *api.Media) { a.SctpPort = 65536 }),
		part(1, "the answer's Sources", false, func(o, a *api.Media) { a.Sources = []uint32{1, 1} }),
		part(1, "the offer's Port", true, func(o, a *api.Media) { o.Port = 5 }),
		part(1, "the offer's SctpPort", true, func(o, a *api.Media) { o.SctpPort = -1 }),
		part(2, "Kind", false, func(o, a *api.Media) { a.Kind = api.Audio + api.Video - a.Kind }),
		{2, "Mid of what is refused", true, func(offer, answer *api.Desc, i int) {
			refuse(answer, i)
			answer.Media[i].Mid = "other"
		}},
		{2, "Kind of what is refused", true, func(offer, answer *api.Desc, i int) {
			refuse(answer, i)
			kind := []int{api.Video: api.Audio, api.Audio: api.Video, api.Data: api.Audio}[answer.Media[i].Kind]
			answer.Media[i] = api.Media{Kind: kind, Mid: answer.Media[i].Mid, Codecs: audio("").Codecs}
		}},
		part(3, "no Port", true, func(o, a *api.Media) { o.Port = 0 }),
	}
}

// codecWays are those of rule 4.
func codecWays() []way {
	codec := func(what string, set func(*api.Codec)) way {
		return part(4, what, false, func(o, a *api.Media) {
			a.Codecs = slices.Clone(a.Codecs)
			set(&a.Codecs[len(a.Codecs)-1])
		})
	}
	return []way{
		codec("Type", func(c *api.Codec) { c.Type = 127 }),
		codec("Name", func(c *api.Codec) { c.Name += "x" }),
		codec("Clock", func(c *api.Codec) { c.Clock++ }),
		codec("Channels", func(c *api.Codec) { c.Channels = 3 - c.Channels }),
		codec("Format", func(c *api.Codec) { c.Format += "x" }),
		codec("Feedback", func(c *api.Codec) { c.Feedback = append(slices.Clone(c.Feedback), "other") }),
		part(4, "order", false, func(o, a *api.Media) {
			a.Codecs = slices.Clone(a.Codecs)
			slices.Reverse(a.Codecs)
		}),
		part(4, "one more", false, func(o, a *api.Media) {
			a.Codecs = append(slices.Clone(a.Codecs), api.Codec{Type: 50, Name: "x", Clock: 1, Channels: 1})
		}),
		part(4, "one offered less", false, func(o, a *api.Media) { o.Codecs = o.Codecs[1:] }),
	}
}

// mediaWays are those of the rules 5 to 8.
func mediaWays() []way {
	return []way{
		part(5, "ID", false, func(o, a *api.Media) { a.Exts = []api.Ext{o.Exts[0], {ID: 9, URI: o.Exts[1].URI}} }),
		part(5, "URI", false, func(o, a *api.Media) { a.Exts = []api.Ext{o.Exts[0], {ID: o.Exts[1].ID, URI: "other"}} }),
		part(5, "none offered", false, func(o, a *api.Media) { o.Exts = nil }),
		part(6, "Send", true, func(o, a *api.Media) { o.Direction, a.Direction = api.Send, api.Send }),
		part(6, "Recv", true, func(o, a *api.Media) { o.Direction, a.Direction = api.Recv, api.Recv }),
		part(6, "both", true, func(o, a *api.Media) { o.Direction, a.Direction = 0, api.Send+api.Recv }),
		part(7, "Rid", false, func(o, a *api.Media) { a.Rids = []string{o.Rids[0], "other"} }),
		part(7, "Sending", false, func(o, a *api.Media) { a.Sending = o.Sending }),
		part(8, "a Crypto less", false, func(o, a *api.Media) { a.Crypto = nil }),
		part(8, "a Crypto more", false, func(o, a *api.Media) { o.Crypto = nil }),
		part(8, "Tag", false, func(o, a *api.Media) { a.Crypto = []api.Crypto{{Tag: 5}} }),
	}
}

// lastWays are those of the rules 9 and 10.
func lastWays() []way {
	return []way{
		{9, "a Mid less", true, func(offer, answer *api.Desc, i int) { unbundle(answer, i) }},
		{9, "a refused one's Mid", true, func(offer, answer *api.Desc, i int) { answer.Media[i].Port = 0 }},
		{9, "a Mid that the offer doesn't bundle", true, func(offer, answer *api.Desc, i int) { unbundle(offer, i) }},
		{10, "one more", true, func(offer, answer *api.Desc, i int) { answer.Version = offer.Version + 1 }},
		{10, "one less", true, func(offer, answer *api.Desc, i int) { answer.Version = offer.Version - 1 }},
	}
}

// lays breaks the rule at the Media at i, if it is a way there.
func (w way) lays(offer, answer *api.Desc, i int) bool {
	if offer.Media[i].Kind == api.Data && !w.data {
		return false
	}
	w.lay(offer, answer, i)
	return true
}

// Nothing is broken.
func TestFit(t *testing.T) {
	for n := range api.MostParts + 1 {
		for start := range kinds() {
			offer := row(n, start)
			tells(t, "all taken", offer, taking(offer), 0)
		}
	}
}

// Each rule is broken alone, at each place of rows of all lengths.
func TestEachRuleAlone(t *testing.T) {
	var seen [11][3]int
	for n := 1; n <= api.MostParts; n++ {
		for start := range kinds() {
			for i := range n {
				for _, w := range ways() {
					offer := row(n, start)
					answer := taking(offer)
					if !w.lays(&offer, &answer, i) {
						continue
					}
					what := w.what + " at " + strconv.Itoa(i) + " of " + strconv.Itoa(n)
					if by := broken(offer, answer); !slices.Equal(by, []int{w.rule}) {
						t.Fatalf("%s: not %d alone: %v", what, w.rule, by)
					}
					tells(t, what, offer, answer, w.rule)
					if n > 1 {
						seen[w.rule][min(i, 1)+max(i-n+2, 0)]++
					}
				}
			}
		}
	}
	for rule := 1; rule <= 10; rule++ {
		for at, n := range seen[rule] {
			if n == 0 {
				t.Error(rule, "was never broken at", at)
			}
		}
	}
}

// Each two rules are broken at once, each ahead of the other one and both at one place: the smaller number is told.
func TestEachTwoRules(t *testing.T) {
	var seen [11][11][3]int
	const n = 3
	for start := range kinds() {
		for _, a := range ways() {
			for _, b := range ways() {
				for at := range n * n {
					i, j := at/n, at%n
					offer := row(n, start)
					answer := taking(offer)
					if a.rule >= b.rule || !a.lays(&offer, &answer, i) || !b.lays(&offer, &answer, j) {
						continue
					}
					by := broken(offer, answer)
					tells(t, a.what+" and "+b.what, offer, answer, first(by))
					if slices.Equal(by, []int{a.rule, b.rule}) {
						seen[a.rule][b.rule][1+min(max(j-i, -1), 1)]++
					}
				}
			}
		}
	}
	for a := 1; a <= 10; a++ {
		for b := a + 1; b <= 10; b++ {
			for at, n := range seen[a][b] {
				if n == 0 {
					t.Error(a, "and", b, "were never broken at once, of the orders in that", at)
				}
			}
		}
	}
}

// The rules from each one on are all broken, at the last Media those with the smaller numbers: the smallest is told.
func TestManyRules(t *testing.T) {
	list := ways()
	one := func(rule int) way { return list[slices.IndexFunc(list, func(w way) bool { return w.rule == rule })] }
	for from := 1; from <= 10; from++ {
		offer := row(api.MostParts, 0)
		answer := taking(offer)
		for rule, at := 10, 0; rule >= from; rule-- {
			for !one(rule).lays(&offer, &answer, at) {
				at++
			}
			at = min(at+1, api.MostParts-1)
		}
		if by := broken(offer, answer); len(by) != 11-from {
			t.Fatal(from, by)
		}
		tells(t, "from "+strconv.Itoa(from), offer, answer, from)
	}
}
