package answer_test

import (
	"math"
	"reflect"
	"slices"
	"strconv"
	"strings"
	"testing"

	"rostrum/answer"
	"rostrum/api"
)

// Offers that aren't good, by each way in which a Desc isn't.
func TestOffersThatArentGood(t *testing.T) {
	wrong(t, "nothing", api.Desc{})
	for what, spoil := range map[string]func(*api.Desc){
		"no Name":             func(d *api.Desc) { d.Name = "" },
		"a short Name":        func(d *api.Desc) { d.Name = "abc" },
		"a long Name":         func(d *api.Desc) { d.Name = strings.Repeat("a", 33) },
		"a Name of no word":   func(d *api.Desc) { d.Name = "ab d" },
		"no Password":         func(d *api.Desc) { d.Password = "" },
		"a short Password":    func(d *api.Desc) { d.Password = strings.Repeat("a", 21) },
		"a long Password":     func(d *api.Desc) { d.Password = strings.Repeat("a", 33) },
		"a Password, no word": func(d *api.Desc) { d.Password = strings.Repeat("a", 22) + "." },
		"alike in Bundle":     func(d *api.Desc) { d.Bundle = append(d.Bundle, d.Bundle[0]) },
		"all alike in Bundle": func(d *api.Desc) { d.Bundle = slices.Repeat(d.Bundle[:1], 1<<16) },
		"a Bundle of others":  func(d *api.Desc) { d.Bundle = append(d.Bundle, "other") },
		"an empty Mid there":  func(d *api.Desc) { d.Bundle = append(d.Bundle, "") },
		"a Mid's case there":  func(d *api.Desc) { d.Bundle[0] = strings.ToUpper(d.Bundle[0]) },
	} {
		for _, d := range []api.Desc{whole(), mixed(1), mixed(api.MostParts)} {
			spoil(&d)
			wrong(t, what, d)
		}
	}
	for n := api.MostParts + 1; n < api.MostParts+9; n++ {
		wrong(t, "too many Media", mixed(n))
		d := row(n, data)
		d.Bundle = nil
		wrong(t, "too many Media, none bundled", d)
	}
	for n := 2; n <= api.MostParts; n++ {
		for j := range n {
			for i := range j {
				d := mixed(n)
				d.Media[j].Mid = d.Media[i].Mid
				d.Bundle = nil
				wrong(t, "Mids alike", d)
				d.Bundle = []string{d.Media[i].Mid}
				wrong(t, "Mids alike, bundled", d)
			}
		}
	}
}

// spoiltMedia are ways in which Media of any kind aren't good, and ones of Audio and Video, and of Data.
func spoiltMedia(kind int) map[string]func(*api.Media) {
	if kind == api.Data {
		return map[string]func(*api.Media){
			"SctpPort 0":     func(m *api.Media) { m.SctpPort = 0 },
			"SctpPort -1":    func(m *api.Media) { m.SctpPort = -1 },
			"SctpPort 65536": func(m *api.Media) { m.SctpPort = 65536 },
			"Codecs":         func(m *api.Media) { m.Codecs = audio("").Codecs },
			"Exts":           func(m *api.Media) { m.Exts = []api.Ext{{ID: 1, URI: "urn:mid"}} },
			"Rids":           func(m *api.Media) { m.Rids = []string{"q"} },
			"Rids, Sending":  func(m *api.Media) { m.Rids, m.Sending = []string{"q"}, true },
			"Sending":        func(m *api.Media) { m.Sending = true },
			"Sources":        func(m *api.Media) { m.Sources = []uint32{5} },
			"Crypto":         func(m *api.Media) { m.Crypto = []api.Crypto{{Tag: 1}} },
		}
	}
	codec := func(set func(*api.Codec)) func(*api.Media) {
		return func(m *api.Media) { set(&m.Codecs[len(m.Codecs)-1]) }
	}
	return map[string]func(*api.Media){
		"no Codecs":         func(m *api.Media) { m.Codecs = nil },
		"Types alike":       func(m *api.Media) { m.Codecs = append(m.Codecs, m.Codecs[0]) },
		"too many Codecs":   func(m *api.Media) { m.Codecs = many(api.MostCodecs+1, m.Codecs[0]) },
		"Type -1":           codec(func(c *api.Codec) { c.Type = -1 }),
		"Type 128":          codec(func(c *api.Codec) { c.Type = 128 }),
		"no codec's Name":   codec(func(c *api.Codec) { c.Name = "" }),
		"a long Name":       codec(func(c *api.Codec) { c.Name = strings.Repeat("c", 33) }),
		"a Name, no word":   codec(func(c *api.Codec) { c.Name = "VP/8" }),
		"Clock 0":           codec(func(c *api.Codec) { c.Clock = 0 }),
		"Clock 1000001":     codec(func(c *api.Codec) { c.Clock = 1000001 }),
		"Channels 0":        codec(func(c *api.Codec) { c.Channels = 0 }),
		"Channels 3":        codec(func(c *api.Codec) { c.Channels = 3 }),
		"a long Format":     codec(func(c *api.Codec) { c.Format = strings.Repeat("f", 101) }),
		"Format of a blank": codec(func(c *api.Codec) { c.Format = " f" }),
		"Format of a line":  codec(func(c *api.Codec) { c.Format = "f\r\n" }),
		"much Feedback":     codec(func(c *api.Codec) { c.Feedback = slices.Repeat([]string{"nack"}, 9) }),
		"empty Feedback":    codec(func(c *api.Codec) { c.Feedback = []string{"nack", ""} }),
		"long Feedback":     codec(func(c *api.Codec) { c.Feedback = []string{strings.Repeat("f", 101)} }),
		"IDs alike":         func(m *api.Media) { m.Exts = []api.Ext{{ID: 1, URI: "a"}, {ID: 1, URI: "b"}} },
		"ID 0":              func(m *api.Media) { m.Exts = []api.Ext{{ID: 0, URI: "urn:mid"}} },
		"ID 15":             func(m *api.Media) { m.Exts = []api.Ext{{ID: 15, URI: "urn:mid"}} },
		"an empty URI":      func(m *api.Media) { m.Exts = []api.Ext{{ID: 1}} },
		"a URI's blank":     func(m *api.Media) { m.Exts = []api.Ext{{ID: 1, URI: "urn mid"}} },
		"Rids alike":        func(m *api.Media) { m.Rids = []string{"q", "h", "q"} },
		"too many Rids":     func(m *api.Media) { m.Rids = []string{"a", "b", "c", "d"} },
		"a long Rid":        func(m *api.Media) { m.Rids = []string{"012345678"} },
		"an empty Rid":      func(m *api.Media) { m.Rids = []string{""} },
		"Sending nothing":   func(m *api.Media) { m.Rids, m.Sending = nil, true },
		"Sources alike":     func(m *api.Media) { m.Sources = []uint32{5, 6, 5} },
		"two Crypto":        func(m *api.Media) { m.Crypto = []api.Crypto{{Tag: 1}, {Tag: 2}} },
		"Tag 0":             func(m *api.Media) { m.Crypto = []api.Crypto{{}} },
		"Tag 10":            func(m *api.Media) { m.Crypto = []api.Crypto{{Tag: 10}} },
		"SctpPort":          func(m *api.Media) { m.SctpPort = 5000 },
	}
}

// many are n codecs of unlike Types.
func many(n int, c api.Codec) []api.Codec {
	list := slices.Repeat([]api.Codec{c}, n)
	for i := range list {
		list[i].Type = i
	}
	return list
}

// One Media that isn't good, at each place, whether it would be refused or not.
func TestMediaThatArentGood(t *testing.T) {
	general := map[string]func(*api.Media){
		"Kind 0":       func(m *api.Media) { m.Kind = 0 },
		"Kind 4":       func(m *api.Media) { m.Kind = 4 },
		"Kind -1":      func(m *api.Media) { m.Kind = -1 },
		"Port 1":       func(m *api.Media) { m.Port = 1 },
		"Port -9":      func(m *api.Media) { m.Port = -9 },
		"Direction 4":  func(m *api.Media) { m.Direction = 4 },
		"Direction -1": func(m *api.Media) { m.Direction = -1 },
		"great":        func(m *api.Media) { m.Direction = math.MaxInt },
		"no Mid":       func(m *api.Media) { m.Mid = "" },
		"a long Mid":   func(m *api.Media) { m.Mid = strings.Repeat("m", 17) },
		"Mid, no word": func(m *api.Media) { m.Mid = "m m" },
		"nothing":      func(m *api.Media) { *m = api.Media{} },
	}
	for _, media := range kinds() {
		for _, ways := range []map[string]func(*api.Media){general, spoiltMedia(media("m").Kind)} {
			for what, spoil := range ways {
				for _, n := range []int{1, 2, api.MostParts} {
					for i := range n {
						d := row(n, media)
						spoil(&d.Media[i])
						d.Bundle[i] = d.Media[i].Mid
						wrong(t, what, d)
						d.Bundle = slices.Delete(d.Bundle, i, i+1)
						wrong(t, what+", not bundled", d)
						if d.Media[i].Port == 9 {
							d.Media[i].Port = 0
							wrong(t, what+", no Port", d)
						}
					}
				}
			}
		}
	}
}

// A good offer has no more than one Crypto: so several Tags are never answered.
func TestMoreThanOneCrypto(t *testing.T) {
	for first := 1; first <= 9; first++ {
		for second := 1; second <= 9; second++ {
			for _, m := range []api.Media{audio("m"), video("m")} {
				m.Crypto = []api.Crypto{{Tag: first}, {Tag: second, Key: key}}
				wrong(t, "two Crypto", of(m))
				m.Port = 0
				wrong(t, "two Crypto, refused", of(m))
			}
		}
	}
}

// handed asks what is answered to good offers with the name and the password handed in.
func handed(t *testing.T, own, pass string, good bool) {
	t.Helper()
	for _, offer := range []api.Desc{of(), whole()} {
		got, e := answer.Make(offer, config(), id, own, pass, key)
		if good && (e != api.OK || got.Name != own || got.Password != pass) {
			t.Errorf("%q, %q: %s, %v", own, pass, short(got), e)
		}
		if !good && (e != api.ErrArg || !reflect.DeepEqual(got, api.Desc{})) {
			t.Errorf("%s, %s: %s, %v", short(own), short(pass), short(got), e)
		}
	}
}

// Names and passwords of each length, and with each byte at their ends and within.
func TestAnswersThatArentGood(t *testing.T) {
	const letters = "-_0123456789abcdefghijklmnopqrstuvwxyzABCDEFGHIJKLMNOPQRSTUVWXYZ"
	for n := range 70 {
		s := strings.Repeat("z", n)
		handed(t, s, password, n >= 4 && n <= 32)
		handed(t, name, s, n >= 22 && n <= 32)
		handed(t, s, s, n >= 22 && n <= 32)
	}
	for c := range 256 {
		x := string([]byte{byte(c)})
		for _, n := range []int{4, 22, 32} {
			for _, i := range []int{0, n / 2, n - 1} {
				s := strings.Repeat("z", i) + x + strings.Repeat("z", n-1-i)
				handed(t, s, password, strings.Contains(letters, x))
				handed(t, name, s, n >= 22 && strings.Contains(letters, x))
			}
		}
	}
	for _, s := range []string{"", " ", "é", "éé", strings.Repeat("é", 11), strings.Repeat("z", 1<<20), strings.Repeat("z", 22) + "\r\na=x"} {
		handed(t, s, password, false)
		handed(t, name, s, false)
		handed(t, s, s, false)
	}
	handed(t, password, name, false)
	for n := range api.MostParts + 1 {
		if got, e := answer.Make(mixed(n), config(), id, "abc", password, key); e != api.ErrArg || !reflect.DeepEqual(got, api.Desc{}) {
			t.Errorf("%s Media: %s, %v", strconv.Itoa(n), short(got), e)
		}
	}
}
