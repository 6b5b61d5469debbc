package jsep_test

import (
	"math"
	"slices"
	"strings"
	"testing"

	"rostrum/api"
	"rostrum/desc"
)

// spoilt are ways in which an offer isn't good, whatever its Media are, but keeps Kinds and Mids in their places if it can.
func spoilt() map[string]func(*api.Desc) {
	return map[string]func(*api.Desc){
		"nothing":             func(d *api.Desc) { *d = api.Desc{} },
		"no Name":             func(d *api.Desc) { d.Name = "" },
		"a short Name":        func(d *api.Desc) { d.Name = "abc" },
		"a long Name":         func(d *api.Desc) { d.Name = strings.Repeat("a", 33) },
		"a Name, no word":     func(d *api.Desc) { d.Name = "ab d" },
		"a short Password":    func(d *api.Desc) { d.Password = strings.Repeat("a", 21) },
		"a long Password":     func(d *api.Desc) { d.Password = strings.Repeat("a", 33) },
		"a Password, no word": func(d *api.Desc) { d.Password = strings.Repeat("a", 22) + "." },
		"alike in Bundle":     func(d *api.Desc) { d.Bundle = append(d.Bundle, d.Bundle[0]) },
		"others in Bundle":    func(d *api.Desc) { d.Bundle = append(d.Bundle, "other") },
		"alike Mids":          func(d *api.Desc) { d.Media = append(d.Media, data(d.Media[0].Mid)) },
		"no Media":            func(d *api.Desc) { d.Media = nil },
		"many Media":          func(d *api.Desc) { d.Media = append(d.Media, row(api.MostParts+1, 0).Media[len(d.Media):]...) },
		"very many Media":     func(d *api.Desc) { d.Media = slices.Repeat(d.Media, 1<<7) },
	}
}

// spoiltMedia are ways in which a Media of the kind isn't good but for its Mid.
func spoiltMedia(kind int) map[string]func(*api.Media) {
	all := map[string]func(*api.Media){
		"Kind 0":       func(m *api.Media) { m.Kind = 0 },
		"Kind 4":       func(m *api.Media) { m.Kind = 4 },
		"Port 1":       func(m *api.Media) { m.Port = 1 },
		"Port -9":      func(m *api.Media) { m.Port = -9 },
		"Direction 4":  func(m *api.Media) { m.Direction = 4 },
		"Direction -1": func(m *api.Media) { m.Direction = -1 },
		"great":        func(m *api.Media) { m.SctpPort = math.MaxInt },
		"an empty Mid": func(m *api.Media) { m.Mid = "" },
		"a long Mid":   func(m *api.Media) { m.Mid = strings.Repeat("m", 17) },
		"no codec":     func(m *api.Media) { m.Codecs = []api.Codec{{}} },
		"IDs alike":    func(m *api.Media) { m.Exts = []api.Ext{{ID: 1, URI: "a"}, {ID: 1, URI: "b"}} },
		"Rids alike":   func(m *api.Media) { m.Rids = []string{"q", "q"} },
		"a long Rid":   func(m *api.Media) { m.Rids = []string{"012345678"} },
		"no Rids":      func(m *api.Media) { m.Rids, m.Sending = nil, true },
		"Sources":      func(m *api.Media) { m.Sources = []uint32{5, 6, 5} },
		"two Crypto":   func(m *api.Media) { m.Crypto = []api.Crypto{{Tag: 1}, {Tag: 2}} },
		"Tag 0":        func(m *api.Media) { m.Crypto = []api.Crypto{{}} },
		"Tag 10":       func(m *api.Media) { m.Crypto = []api.Crypto{{Tag: 10}} },
	}
	if kind == api.Data {
		all["SctpPort 0"] = func(m *api.Media) { m.SctpPort = 0 }
		all["Codecs"] = func(m *api.Media) { m.Codecs = audio("").Codecs }
		return all
	}
	codec := func(set func(*api.Codec)) func(*api.Media) {
		return func(m *api.Media) { set(&m.Codecs[len(m.Codecs)-1]) }
	}
	all["SctpPort"] = func(m *api.Media) { m.SctpPort = 5000 }
	all["no Codecs"] = func(m *api.Media) { m.Codecs = nil }
	all["too many Codecs"] = func(m *api.Media) { m.Codecs = slices.Repeat(m.Codecs, 9) }
	all["Type 128"] = codec(func(c *api.Codec) { c.Type = 128 })
	all["Clock 0"] = codec(func(c *api.Codec) { c.Clock = 0 })
	all["Channels 3"] = codec(func(c *api.Codec) { c.Channels = 3 })
	all["a Name's blank"] = codec(func(c *api.Codec) { c.Name = "VP 8" })
	all["a Format's line"] = codec(func(c *api.Codec) { c.Format = "f\r\n" })
	all["no Feedback"] = codec(func(c *api.Codec) { c.Feedback = []string{""} })
	return all
}

// isWrong asks of an offer that isn't good: by each side, without an agreement and with one that it would fit.
func isWrong(t *testing.T, what string, like, bad api.Desc) {
	t.Helper()
	if desc.Good(bad) || !desc.Good(like) {
		t.Fatal(what, short(bad))
	}
	for name, begin := range beginnings(like) {
		for _, x := range []step{remotely(bad), locally(bad)} {
			p := did(t, begin...)
			p.gives(t, what+", "+name, x, api.ErrArg, stable)
			p.gives(t, what+", "+name, remotely(like), api.OK, remote)
			p.gives(t, what+", "+name, replying(), api.OK, stable)
		}
	}
	for state, want := range [][2]api.Errno{local: {api.ErrGlare, api.ErrState}, remote: {api.ErrState, api.ErrGlare}, closed: {api.ErrState, api.ErrState}} {
		if state == stable {
			continue
		}
		p := did(t, into(state, like)...)
		p.gives(t, what, remotely(bad), want[0], state)
		p.gives(t, what, locally(bad), want[1], state)
	}
}

// Offers that aren't good, of each kind.
func TestOffersThatArentGood(t *testing.T) {
	for what, spoil := range spoilt() {
		for first := range kinds() {
			like := row(2, first)
			bad := copied(like, false)
			spoil(&bad)
			isWrong(t, what, like, bad)
		}
	}
}

// One Media that isn't good, at each place.
func TestMediaThatArentGood(t *testing.T) {
	for first := range kinds() {
		for i := range kinds() {
			like := row(3, first)
			for what, spoil := range spoiltMedia(like.Media[i].Kind) {
				bad := copied(like, false)
				spoil(&bad.Media[i])
				bad.Bundle[i] = bad.Media[i].Mid
				isWrong(t, what, like, bad)
			}
		}
	}
}

// A good offer is taken even if it has no text: its attributes are too many for a part.
func TestOffersWithoutText(t *testing.T) {
	big := row(2, 0)
	for i := range api.MostCodecs - 2 {
		big.Media[0].Codecs = append(big.Media[0].Codecs, api.Codec{Type: i, Name: "x", Clock: 1, Channels: 1, Feedback: slices.Repeat([]string{"nack"}, 8)})
	}
	if _, e := desc.Print(big); e == api.OK || !desc.Good(big) {
		t.Fatal(e)
	}
	for what, begin := range asAgreed(big) {
		p := did(t, begin...)
		if _, _, ok := p.Agreed(); !ok || p.State() != stable {
			t.Error(what)
		}
	}
}
