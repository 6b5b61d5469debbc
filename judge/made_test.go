package judge_test

import (
	"math"
	"math/rand"
	"reflect"
	"slices"
	"strconv"
	"strings"
	"testing"

	"rostrum/answer"
	"rostrum/api"
	"rostrum/desc"
)

const (
	name     = "self"
	password = "9876543210_ZYXWVUTSRQP"
)

// made asks whether what layer 9 makes of a good offer is judged 0, and tells it.
func made(t *testing.T, what string, offer api.Desc, c api.Config) api.Desc {
	t.Helper()
	d, e := answer.Make(offer, c, 7, name, password, [30]byte{1})
	if e != api.OK {
		t.Fatalf("%s: %v: %s", what, e, short(offer))
	}
	tells(t, what, offer, d, 0)
	return d
}

// config can do what the tests' Media offer.
func config() api.Config {
	c := api.Config{Exts: []string{"urn:level", "urn:mid", "urn:twcc"}, Data: true}
	for _, x := range append(audio("").Codecs, video("").Codecs...) {
		x.Feedback = turned(x.Feedback)
		c.Codecs = append(c.Codecs, x)
	}
	return c
}

// Each few of what may be in a Config, of offers of which each few are refused, not bundled, without keys.
func TestMade(t *testing.T) {
	for mask := range 1 << 10 {
		c := config()
		c.Data = mask&1 == 1
		c.Exts = c.Exts[:mask>>1&3]
		c.Codecs = slices.DeleteFunc(c.Codecs, func(x api.Codec) bool { return mask>>3>>(x.Type%7)&1 == 1 })
		for n := range api.MostParts + 1 {
			offer := row(n, mask)
			for i := range n {
				switch (mask + i*5) % 11 {
				case 0:
					offer.Media[i].Port = 0
				case 1:
					offer.Media[i].Crypto = nil
				case 2:
					unbundle(&offer, i)
				}
				offer.Media[i].Direction = (mask + i) % 4
			}
			made(t, "mask "+strconv.Itoa(mask), offer, c)
		}
	}
}

// The answer to an offer that came as a text, itself gone as a text.
func TestMadeOfTexts(t *testing.T) {
	passed := func(d api.Desc) api.Desc {
		s, e := desc.Print(d)
		if e != api.OK {
			t.Fatal(e, short(d))
		}
		read, _, e := desc.Read(strings.Replace(s, "a=mid:", "a=other:x\r\na=mid:", 1))
		if e != api.OK {
			t.Fatal(e, s)
		}
		return read
	}
	for n := range api.MostParts {
		for start := range kinds() {
			offer := passed(row(n, start))
			tells(t, "passed", offer, passed(made(t, "of a text", offer, config())), 0)
		}
	}
}

func TestMadeAtTheLimits(t *testing.T) {
	var full api.Desc
	var c api.Config
	for n := range api.MostParts {
		m := video("m" + strconv.Itoa(n))
		m.Codecs, m.Exts, m.Sources = mostCodecs(), mostExts(), nil
		for i := range api.MostSources {
			m.Sources = append(m.Sources, uint32(i))
		}
		full.Media, c.Codecs = append(full.Media, m), m.Codecs
	}
	full = of(full.Media...)
	full.Version = math.MaxUint64
	made(t, "none common", full, c)
	c.Exts = []string{strings.Repeat("u", 100)}
	if d := made(t, "all common", full, c); len(d.Bundle) != api.MostParts || len(d.Media[7].Exts) != api.MostExts || len(d.Media[7].Codecs) != api.MostCodecs {
		t.Error(short(d))
	}
	c.Codecs = c.Codecs[:1]
	c.Codecs[0].Name = "other"
	made(t, "no codec", full, c)
}

// some are members of the list in any order, some of them perhaps twice.
func some[T any](r *rand.Rand, most int, list ...T) []T {
	var few []T
	for range r.Intn(most + 1) {
		few = append(few, list[r.Intn(len(list))])
	}
	return few
}

func anyCodecs(r *rand.Rand, most int) []api.Codec {
	var list []api.Codec
	for i, kind := range r.Perm(128)[:1+r.Intn(most)] {
		list = append(list, api.Codec{
			Type: kind, Name: []string{"VP8", "vp8"}[r.Intn(2)], Clock: []int{90000, 48000}[r.Intn(2)], Channels: 1 + r.Intn(2),
			Format: []string{"", "x", strconv.Itoa(i)}[r.Intn(3)], Feedback: some(r, 8, "nack", "nack pli", "ccm fir", "x"),
		})
	}
	return list
}

func anyMedia(r *rand.Rand, mid string) api.Media {
	m := api.Media{Kind: 1 + r.Intn(3), Port: 9 * min(r.Intn(5), 1), Mid: mid, Direction: r.Intn(4)}
	if m.Kind == api.Data {
		m.SctpPort = 1 + r.Intn(65535)
		return m
	}
	m.Codecs = anyCodecs(r, 4)
	for _, i := range r.Perm(api.MostExts)[:r.Intn(6)] {
		m.Exts = append(m.Exts, api.Ext{ID: 1 + i, URI: []string{"a", "b", "c", "A"}[r.Intn(4)]})
	}
	m.Rids = []string{"h", "q", "f"}[:r.Intn(4)]
	m.Sending = len(m.Rids) > 0 && r.Intn(2) == 0
	m.Sources = []uint32{9, 8, 7}[:r.Intn(4)]
	if r.Intn(5) > 0 {
		m.Crypto = []api.Crypto{{Tag: 1 + r.Intn(9), Key: [30]byte{byte(r.Int())}}}
	}
	return m
}

func anyOffer(r *rand.Rand) api.Desc {
	offer := of()
	offer.Version = r.Uint64()
	for _, i := range r.Perm(20)[:r.Intn(api.MostParts+1)] {
		mid := "m" + strconv.Itoa(i)
		offer.Media = append(offer.Media, anyMedia(r, mid))
		if r.Intn(6) > 0 {
			offer.Bundle = append(offer.Bundle, mid)
		}
	}
	r.Shuffle(len(offer.Bundle), func(i, j int) { offer.Bundle[i], offer.Bundle[j] = offer.Bundle[j], offer.Bundle[i] })
	return offer
}

func anyConfig(r *rand.Rand) api.Config {
	return api.Config{Codecs: anyCodecs(r, 6), Exts: some(r, 4, "a", "b", "c"), Data: r.Intn(4) > 0}
}

// What is made of offers of all sorts is judged 0.
func TestMadeOfManyOffers(t *testing.T) {
	r := rand.New(rand.NewSource(10))
	taken := 0
	for range 10000 {
		taken += len(made(t, "any", anyOffer(r), anyConfig(r)).Bundle)
	}
	if taken < 10000 {
		t.Error("only", taken)
	}
}

// edit changes one thing of d, whatever it is: a number, a text, a list's length, two of its members.
func edit(r *rand.Rand, d *api.Desc) {
	var leaves []reflect.Value
	each(reflect.ValueOf(d).Elem(), func(v reflect.Value) {
		if v.Kind() != reflect.Struct && v.Kind() != reflect.Array {
			leaves = append(leaves, v)
		}
	})
	v := leaves[r.Intn(len(leaves))]
	switch {
	case v.CanInt():
		v.SetInt([]int64{0, 1, 2, 3, 9, v.Int() + 1, v.Int() - 1}[r.Intn(7)])
	case v.CanUint():
		v.SetUint(v.Uint() + 1)
	case v.Kind() == reflect.Bool:
		v.SetBool(!v.Bool())
	case v.Kind() == reflect.String:
		v.SetString([]string{"", "x", "nack", "a", "A", "VP8", v.String() + "x"}[r.Intn(7)])
	case v.Len() > 0:
		editList(r, v)
	case v.Kind() == reflect.Slice:
		v.Set(reflect.Append(v, filled(v.Type().Elem())))
	}
}

func editList(r *rand.Rand, v reflect.Value) {
	n := v.Len()
	i, j := r.Intn(n), r.Intn(n)
	swap := reflect.Swapper(v.Interface())
	switch r.Intn(4) {
	case 0:
		swap(i, n-1)
		v.SetLen(n - 1)
	case 1:
		v.Set(reflect.Append(v, v.Index(i)))
	case 2:
		v.SetLen(i)
	case 3:
		swap(i, j)
	}
}

// What is made is edited, the offer too: what is told is what the chapter's words say.
func TestEdited(t *testing.T) {
	r := rand.New(rand.NewSource(11))
	var seen [11]int
	for range 40000 {
		offer := anyOffer(r)
		own, e := answer.Make(offer, anyConfig(r), 7, name, password, [30]byte{1})
		if e != api.OK {
			t.Fatal(e, short(offer))
		}
		offer, own = copied(offer, false), copied(own, false)
		for range 1 + r.Intn(3) {
			edit(r, []*api.Desc{&offer, &own, &own}[r.Intn(3)])
		}
		want := first(broken(offer, own))
		tells(t, "edited", offer, own, want)
		seen[want]++
	}
	for rule, n := range seen {
		if n < 30 {
			t.Error(rule, "only", n)
		}
	}
}

// Each offer with what was made of another one.
func TestMixedUp(t *testing.T) {
	r := rand.New(rand.NewSource(12))
	var offers, answers []api.Desc
	for range 120 {
		offer := anyOffer(r)
		offer.Version = 4
		for i := range offer.Media {
			offer.Media[i].Mid = "m" + strconv.Itoa(i)
		}
		offer.Bundle = of(offer.Media...).Bundle
		offers, answers = append(offers, offer), append(answers, made(t, "any", offer, anyConfig(r)))
	}
	for i, offer := range offers {
		for j, own := range answers {
			want := first(broken(offer, own))
			if i == j {
				want = 0
			}
			tells(t, "mixed up", offer, own, want)
		}
	}
}
