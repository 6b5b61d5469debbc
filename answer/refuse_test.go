package answer_test

import (
	"slices"
	"strconv"
	"testing"

	"rostrum/api"
)

// A reason for which Media are refused, laid on the Media at i.
type reason struct {
	what string
	lay  func(d *api.Desc, i int)
}

func unbundle(d *api.Desc, i int) {
	mid := d.Media[i].Mid
	d.Bundle = slices.DeleteFunc(slices.Clone(d.Bundle), func(s string) bool { return s == mid })
}

func noPort(d *api.Desc, i int) { d.Media[i].Port = 0 }

func noCrypto(d *api.Desc, i int) { d.Media[i].Crypto = nil }

func noCommon(d *api.Desc, i int) {
	m := &d.Media[i]
	m.Codecs = slices.Clone(m.Codecs)
	for j := range m.Codecs {
		m.Codecs[j].Name += "x"
	}
}

func reasons(kind int) []reason {
	list := []reason{{"no Port", noPort}, {"not bundled", unbundle}}
	if kind != api.Data {
		list = append(list, reason{"no common codec", noCommon}, reason{"no Crypto", noCrypto})
	}
	return list
}

// refuses asks whether just the Media for which is tells true are refused.
func refuses(t *testing.T, what string, offer api.Desc, c api.Config, is func(i int) bool) {
	t.Helper()
	right(t, what, offer, c)
	got, _ := run(offer, c)
	if len(got.Media) != len(offer.Media) {
		t.Fatalf("%s: %s", what, short(got))
	}
	for i, m := range got.Media {
		offered := offer.Media[i]
		bare := api.Media{Kind: offered.Kind, Mid: offered.Mid, Codecs: offered.Codecs, SctpPort: offered.SctpPort}
		if is(i) != same(m, bare) || is(i) != (m.Port == 0) || is(i) == slices.Contains(got.Bundle, m.Mid) || m.Mid != offered.Mid {
			t.Errorf("%s: %d of %s: %s", what, i, short(got.Bundle), short(m))
		}
	}
}

// Each reason alone, at each place, among others that are taken; and on all of them.
func TestRefusedForOneReason(t *testing.T) {
	for _, media := range kinds() {
		for _, r := range reasons(media("m").Kind) {
			for n := 1; n <= api.MostParts; n++ {
				for i := range n {
					what := r.what + " at " + strconv.Itoa(i) + " of " + strconv.Itoa(n)
					offer := row(n, media)
					r.lay(&offer, i)
					refuses(t, what, offer, config(), func(at int) bool { return at == i })
					offer = mixed(n)
					offer.Media[i] = media(offer.Media[i].Mid)
					r.lay(&offer, i)
					refuses(t, what+", mixed", offer, config(), func(at int) bool { return at == i })
				}
				offer := row(n, media)
				for i := range n {
					r.lay(&offer, i)
				}
				refuses(t, "all "+r.what, offer, config(), func(int) bool { return true })
			}
		}
	}
}

// Data is refused where the Config's Data is false, first, last and between.
func TestRefusedData(t *testing.T) {
	c := config()
	c.Data = false
	for n := 1; n <= api.MostParts; n++ {
		for i := range n {
			for _, media := range []func(string) api.Media{audio, video} {
				offer := row(n, media)
				offer.Media[i] = data(offer.Media[i].Mid)
				refuses(t, "Data at "+strconv.Itoa(i), offer, c, func(at int) bool { return at == i })
				refuses(t, "Data that it can do", offer, config(), func(int) bool { return false })
			}
		}
		refuses(t, "all Data", row(n, data), c, func(int) bool { return true })
		refuses(t, "all Data that it can do", row(n, data), config(), func(int) bool { return false })
		refuses(t, "of all kinds", mixed(n), c, func(i int) bool { return mixed(n).Media[i].Kind == api.Data })
	}
}

// Each two reasons at once, and all of them.
func TestRefusedForMoreReasons(t *testing.T) {
	for _, media := range kinds() {
		list := reasons(media("m").Kind)
		for _, able := range []bool{false, true} {
			c := config()
			c.Data = able
			for mask := range 1 << len(list) {
				offer := row(2, media)
				for i, r := range list {
					if mask>>i&1 == 1 {
						r.lay(&offer, 1)
					}
				}
				off := offer.Media[1].Kind == api.Data && !able
				refuses(t, "mask "+strconv.Itoa(mask), offer, c, func(i int) bool { return off || i == 1 && mask > 0 })
			}
		}
	}
}

// Each Media of a row is refused or not, in all ways.
func TestRefusedInAllWays(t *testing.T) {
	const n = 5
	for _, lay := range []func(*api.Desc, int){noPort, unbundle} {
		for mask := range 1 << n {
			offer := mixed(n)
			for i := range n {
				if mask>>i&1 == 1 {
					lay(&offer, i)
				}
			}
			refuses(t, "mask "+strconv.Itoa(mask), offer, config(), func(i int) bool { return mask>>i&1 == 1 })
		}
	}
}

// What one Media hasn't another one's doesn't make up for: the codecs, the key and the place in Bundle are its own.
func TestRefusedBesideOthers(t *testing.T) {
	offer := of(audio("a"), video("b"), audio("c"), data("d"))
	noCommon(&offer, 0)
	noCrypto(&offer, 1)
	unbundle(&offer, 2)
	noPort(&offer, 3)
	refuses(t, "each for another reason", offer, config(), func(int) bool { return true })
	offer.Media = append(offer.Media, audio("e"))
	offer.Bundle = append(offer.Bundle, "e")
	refuses(t, "and one that is taken", offer, config(), func(i int) bool { return i != 4 })
}

// One common codec is enough, wherever it stands.
func TestOneCommonCodec(t *testing.T) {
	for n := 1; n <= api.MostCodecs; n++ {
		for i := range n {
			m := audio("m")
			common := m.Codecs[0]
			m.Codecs = nil
			for kind := range n {
				m.Codecs = append(m.Codecs, api.Codec{Type: kind, Name: "x", Clock: 8000, Channels: 1})
			}
			refuses(t, "none", of(m), config(), func(int) bool { return true })
			m.Codecs[i] = common
			refuses(t, "one", of(m), config(), func(int) bool { return false })
			if got := one(t, "one", m, config()); !same(got.Codecs, []api.Codec{common}) {
				t.Error(short(got))
			}
		}
	}
}

// What isn't a reason: no Direction, no Exts, no Rids, no Sources, and as many as may be of them.
func TestNotRefused(t *testing.T) {
	never := func(int) bool { return false }
	for _, media := range []func(string) api.Media{audio, video} {
		for what, set := range map[string]func(*api.Media){
			"nothing":      func(m *api.Media) {},
			"no Direction": func(m *api.Media) { m.Direction = 0 },
			"no Exts":      func(m *api.Media) { m.Exts = nil },
			"other Exts":   func(m *api.Media) { m.Exts = []api.Ext{{ID: 1, URI: "x"}} },
			"no Rids":      func(m *api.Media) { m.Rids, m.Sending = nil, false },
			"not Sending":  func(m *api.Media) { m.Rids, m.Sending = []string{"a"}, false },
			"no Sources":   func(m *api.Media) { m.Sources = nil },
			"Sources":      func(m *api.Media) { m.Sources = []uint32{0} },
			"no Feedback":  func(m *api.Media) { m.Codecs[0].Feedback = nil },
			"no Format":    func(m *api.Media) { m.Codecs[0].Format = "" },
			"a key of 0":   func(m *api.Media) { m.Crypto = []api.Crypto{{Tag: 9}} },
		} {
			m := media("m")
			set(&m)
			refuses(t, what, of(m), config(), never)
		}
	}
	for direction := range 4 {
		m := data("d")
		m.Direction = direction
		refuses(t, "Data", of(m), config(), never)
		refuses(t, "Data alone", of(m), api.Config{Data: true}, never)
	}
}
