package answer_test

import (
	"math"
	"math/rand"
	"slices"
	"strconv"
	"strings"
	"testing"

	"rostrum/answer"
	"rostrum/api"
	"rostrum/desc"
	"rostrum/sdp"
)

// The answer to whole, by hand.
func TestMakeByHand(t *testing.T) {
	want := api.Desc{
		ID: id, Version: 4, Bundle: []string{"d", "v-1", "a"}, Name: name, Password: password,
		Media: []api.Media{
			{Kind: api.Data, Port: 9, Mid: "d", Direction: api.Send + api.Recv, SctpPort: 5000},
			{
				Kind: api.Video, Port: 9, Mid: "v-1", Direction: api.Recv,
				Codecs: []api.Codec{
					{Type: 96, Name: "VP8", Clock: 90000, Channels: 1, Feedback: []string{"nack", "nack pli"}},
					{Type: 102, Name: "H264", Clock: 90000, Channels: 1, Format: "profile-level-id=42e01f", Feedback: []string{"nack pli"}},
				},
				Exts:   []api.Ext{{ID: 3, URI: "urn:mid"}, {ID: 1, URI: "urn:level"}},
				Rids:   []string{"q", "h", "f"},
				Crypto: []api.Crypto{{Tag: 3, Key: key}},
			},
			{Kind: api.Video, Mid: "w", Codecs: video("w").Codecs},
			{
				Kind: api.Audio, Port: 9, Mid: "a", Direction: api.Send + api.Recv,
				Codecs: []api.Codec{{Type: 111, Name: "opus", Clock: 48000, Channels: 2, Format: "useinbandfec=1"}},
				Crypto: []api.Crypto{{Tag: 1, Key: key}},
			},
			{Kind: api.Audio, Mid: "b", Codecs: audio("b").Codecs},
			{Kind: api.Video, Mid: "x", Codecs: video("x").Codecs},
		},
	}
	gives(t, "whole", whole(), config(), want)
	gives(t, "no Media", of(), config(), api.Desc{ID: id, Version: 4, Name: name, Password: password})
	gives(t, "a Config of nothing", of(data("d")), api.Config{}, api.Desc{ID: id, Version: 4, Name: name, Password: password, Media: []api.Media{{Kind: api.Data, Mid: "d", SctpPort: 5000}}})
	for _, offer := range all() {
		right(t, "one of all", offer, config())
		right(t, "one of all, a Config of nothing", offer, api.Config{})
	}
}

// The chapter's examples: of VP8 and H264 the one that the Config has, and sendonly and recvonly.
func TestMakeExamples(t *testing.T) {
	m := video("v")
	m.Codecs = slices.Delete(m.Codecs, 1, 2)
	c := config()
	c.Codecs = c.Codecs[2:]
	got := one(t, "VP8 alone", m, c)
	if len(got.Codecs) != 1 || got.Codecs[0].Name != "VP8" || got.Codecs[0].Type != 96 || got.Direction != api.Recv {
		t.Error(short(got))
	}
}

// ID and Version at nought, at their greatest and between, the offer's ID being neither.
func TestMakeNumbers(t *testing.T) {
	list := []uint64{0, 1, 9, 10, math.MaxUint32, math.MaxUint32 + 1, math.MaxInt64, math.MaxInt64 + 1, math.MaxUint64 - 1, math.MaxUint64}
	for bit := range 64 {
		list = append(list, 1<<bit)
	}
	for _, own := range list {
		for _, version := range list {
			offer := of(data("d"))
			offer.ID, offer.Version = own^2, version
			got, e := answer.Make(offer, config(), own, name, password, key)
			if e != api.OK || got.ID != own || got.Version != version {
				t.Errorf("%d, %d: %s, %v", own, version, short(got), e)
			}
		}
	}
}

// The answer's Name and Password are those that are handed in, whatever the offer's are.
func TestMakeNames(t *testing.T) {
	for _, offer := range all() {
		for _, own := range []string{"abcd", "-_-_", "peer", strings.Repeat("Z", 32)} {
			for _, pass := range []string{strings.Repeat("0", 22), offer.Password, strings.Repeat("-", 32)} {
				got, e := answer.Make(offer, config(), 1, own, pass, key)
				if e != api.OK || got.Name != own || got.Password != pass || !same(got, meant(offer, config(), 1, own, pass, key)) {
					t.Errorf("%s, %s: %s, %v", own, pass, short(got), e)
				}
			}
		}
	}
}

// The Bundle is in the Media's order, in whatever order the offer's is.
func TestMakeOrderOfBundle(t *testing.T) {
	for n := range api.MostParts + 1 {
		offer := mixed(n)
		mids := slices.Clone(offer.Bundle)
		for i := range n {
			for j := range n {
				offer.Bundle = slices.Clone(mids)
				offer.Bundle[i], offer.Bundle[j] = offer.Bundle[j], offer.Bundle[i]
				slices.Reverse(offer.Bundle)
				right(t, "turned", offer, config())
				if got, _ := run(offer, config()); !slices.Equal(got.Bundle, mids) {
					t.Errorf("%q of %q", got.Bundle, offer.Bundle)
				}
			}
		}
	}
	offer := of(audio("z"), data("m"), video("a"), audio("b"))
	offer.Bundle = []string{"b", "a", "z"}
	right(t, "Mids that aren't sorted", offer, config())
	if got, _ := run(offer, config()); !slices.Equal(got.Bundle, []string{"z", "a", "b"}) {
		t.Error(short(got))
	}
}

// An offer that came as a text is answered by one that goes as a text.
func TestMakeOfTexts(t *testing.T) {
	for _, offer := range all() {
		s, e := desc.Print(offer)
		if e != api.OK {
			t.Fatal(e)
		}
		read, _, e := desc.Read(strings.Replace(s, "a=mid:", "a=other:x\r\na=mid:", 1))
		if e != api.OK {
			t.Fatal(e)
		}
		got, e := run(read, config())
		if e != api.OK || !same(got, meant(offer, config(), id, name, password, key)) {
			t.Errorf("%s, %v", short(got), e)
		}
		s, e = desc.Print(got)
		if _, _, wrong := sdp.Parse(s); e != api.OK || wrong != api.OK {
			t.Errorf("%s: %v, %v", short(got), e, wrong)
		}
	}
}

// At the limits: as many of everything as may be, all common, and none.
func TestMakeAtTheLimits(t *testing.T) {
	var c api.Config
	full := func(mid string) api.Media {
		m := video(mid)
		m.Codecs, m.Exts, m.Sources = nil, nil, nil
		for i := range api.MostCodecs {
			x := api.Codec{Type: 127 - i, Name: strings.Repeat("c", 32), Clock: 1000000 - i, Channels: 2, Format: strings.Repeat("f", 100)}
			for j := range 8 {
				x.Feedback = append(x.Feedback, strings.Repeat("b", 99)+strconv.Itoa(j))
			}
			m.Codecs = append(m.Codecs, x)
		}
		for i := range api.MostExts {
			m.Exts = append(m.Exts, api.Ext{ID: i + 1, URI: strings.Repeat("u", 98) + strconv.Itoa(10+i)})
		}
		m.Rids = []string{"01234567", "abcdefgh", "--------"}
		for i := range api.MostSources {
			m.Sources = append(m.Sources, uint32(i)<<28)
		}
		m.Crypto[0].Tag = 9
		return m
	}
	offer := row(api.MostParts, full)
	right(t, "none common", offer, c)
	for i := range 1000 {
		c.Codecs = append(c.Codecs, api.Codec{Name: "c", Clock: i})
		c.Exts = append(c.Exts, strconv.Itoa(i))
	}
	right(t, "none common of many", offer, c)
	c.Codecs = append(c.Codecs, full("m").Codecs...)
	for _, x := range full("m").Exts {
		c.Exts = append(c.Exts, x.URI)
	}
	right(t, "all common", offer, c)
	got, _ := run(offer, c)
	for i, m := range got.Media {
		if len(got.Bundle) != api.MostParts || !same(m.Codecs, offer.Media[i].Codecs) || !same(m.Exts, offer.Media[i].Exts) {
			t.Error(short(m))
		}
	}
}

// A Config may hold anything: what no good codec or extension is alike to is never answered.
func TestMakeOfOddConfigs(t *testing.T) {
	odd := []api.Codec{{}, {Name: "VP8"}, {Name: "VP8", Clock: 90000}, {Name: "VP8", Clock: 90000, Channels: -1}, {Name: "VP8", Clock: -90000, Channels: 1}, {Name: "VP8\x00", Clock: 90000, Channels: 1}, {Name: strings.Repeat("VP8", 1<<16), Clock: math.MinInt, Channels: math.MaxInt}}
	c := api.Config{Codecs: odd, Exts: []string{"", " ", "urn:", "\xff", strings.Repeat("urn:mid", 1<<16)}, Data: true}
	for _, offer := range all() {
		right(t, "odd", offer, c)
		more := c
		more.Codecs = append(slices.Clone(odd), config().Codecs...)
		more.Exts = append(slices.Clone(c.Exts), config().Exts...)
		gives(t, "odd ones ahead", offer, more, meant(offer, config(), id, name, password, key))
		more.Codecs = append(config().Codecs, config().Codecs...)
		more.Exts = append(config().Exts, config().Exts...)
		gives(t, "all twice", offer, more, meant(offer, config(), id, name, password, key))
		more.Codecs, more.Exts = slices.Clone(config().Codecs), slices.Clone(config().Exts)
		for i := range more.Codecs {
			more.Codecs[i].Type, more.Codecs[i].Format = -1, strings.Repeat("\x00", 1000)
			more.Codecs[i].Feedback = append(more.Codecs[i].Feedback, "", "\r\n", strings.Repeat("nack", 1<<10))
		}
		gives(t, "odd Types, Formats, Feedback", offer, more, meant(offer, config(), id, name, password, key))
	}
}

// some are members of the list in any order, some of them perhaps twice.
func some[T any](r *rand.Rand, most int, list ...T) []T {
	var few []T
	for range r.Intn(most + 1) {
		few = append(few, list[r.Intn(len(list))])
	}
	return few
}

func anyCodecs(r *rand.Rand, most int) []api.Codec {
	var list []api.Codec
	for i, kind := range r.Perm(128)[:r.Intn(most+1)] {
		list = append(list, api.Codec{
			Type: kind, Name: []string{"VP8", "vp8", "opus"}[r.Intn(3)], Clock: []int{90000, 48000}[r.Intn(2)], Channels: 1 + r.Intn(2),
			Format: []string{"", "x", strconv.Itoa(i)}[r.Intn(3)], Feedback: some(r, 8, "nack", "nack pli", "ccm fir", "x"),
		})
	}
	return list
}

func anyMedia(r *rand.Rand, mid string) api.Media {
	m := api.Media{Kind: 1 + r.Intn(3), Port: 9 * min(r.Intn(5), 1), Mid: mid, Direction: r.Intn(4)}
	if m.Kind == api.Data {
		m.SctpPort = 1 + r.Intn(65535)
		return m
	}
	m.Codecs = append(anyCodecs(r, 3), api.Codec{Type: 0, Name: "vp9", Clock: 90000, Channels: 1})
	m.Codecs = slices.CompactFunc(m.Codecs, func(a, b api.Codec) bool { return a.Type == b.Type })
	for _, i := range r.Perm(api.MostExts)[:r.Intn(6)] {
		m.Exts = append(m.Exts, api.Ext{ID: 1 + i, URI: []string{"a", "b", "c", "A"}[r.Intn(4)]})
	}
	m.Rids = []string{"h", "q", "f"}[:r.Intn(4)]
	m.Sending = len(m.Rids) > 0 && r.Intn(2) == 0
	m.Sources = []uint32{9, 8, 7}[:r.Intn(4)]
	if r.Intn(5) > 0 {
		m.Crypto = []api.Crypto{{Tag: 1 + r.Intn(9), Key: [30]byte{byte(r.Int())}}}
	}
	return m
}

// Offers and Configs of all sorts are answered as the chapter's words lay it.
func TestMakeOfManyOffers(t *testing.T) {
	r := rand.New(rand.NewSource(9))
	good, taken := 0, 0
	for range 20000 {
		offer := of()
		for _, i := range r.Perm(20)[:r.Intn(api.MostParts+1)] {
			mid := "m" + strconv.Itoa(i)
			offer.Media = append(offer.Media, anyMedia(r, mid))
			if r.Intn(6) > 0 {
				offer.Bundle = append(offer.Bundle, mid)
			}
		}
		r.Shuffle(len(offer.Bundle), func(i, j int) { offer.Bundle[i], offer.Bundle[j] = offer.Bundle[j], offer.Bundle[i] })
		c := api.Config{Codecs: anyCodecs(r, 4), Exts: some(r, 4, "a", "b", "c"), Data: r.Intn(2) == 0}
		if !desc.Good(offer) {
			wrong(t, "not good", offer)
			continue
		}
		good++
		right(t, "good", offer, c)
		got, _ := run(offer, c)
		taken += len(got.Bundle)
	}
	if good < 10000 || taken < 10000 {
		t.Error("only", good, taken)
	}
}
