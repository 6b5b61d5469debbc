package desc_test

import (
	"slices"
	"strconv"
	"strings"
	"testing"

	"rostrum/api"
	"rostrum/desc"
)

const letters = "-_0123456789abcdefghijklmnopqrstuvwxyzABCDEFGHIJKLMNOPQRSTUVWXYZ"

func TestGoodExamples(t *testing.T) {
	for _, d := range all() {
		asks(t, "one of all", d, true)
	}
	asks(t, "nothing", api.Desc{}, false)
	asks(t, "no Name", api.Desc{Password: password}, false)
	asks(t, "no Password", api.Desc{Name: name}, false)
}

// Names and Passwords of each length, and with each byte at each end and within.
func TestGoodWords(t *testing.T) {
	for _, on := range []func() api.Desc{bare, whole} {
		for _, f := range []struct {
			what  string
			set   func(*api.Desc, string)
			least int
		}{
			{"Name", func(d *api.Desc, s string) { d.Name = s }, 4},
			{"Password", func(d *api.Desc, s string) { d.Password = s }, 22},
		} {
			with := func(s string, want bool) {
				t.Helper()
				d := on()
				f.set(&d, s)
				asks(t, f.what, d, want)
			}
			for n := range 70 {
				s := strings.Repeat("z", n)
				with(s, n >= f.least && n <= 32)
				for _, i := range []int{0, n / 2, n - 1} {
					if n > 0 {
						with(s[:i]+"."+s[i+1:], false)
						with(s[:i]+" "+s[i+1:], false)
					}
				}
			}
			for _, n := range []int{3, 4, 21, 22, 32, 33} {
				for c := range 256 {
					for _, i := range []int{0, n / 2, n - 1} {
						x := string([]byte{byte(c)})
						with(strings.Repeat("z", i)+x+strings.Repeat("z", n-1-i), n >= f.least && n <= 32 && strings.Contains(letters, x))
					}
				}
			}
			with(strings.Repeat("é", f.least), false)
			with(strings.Repeat("z", f.least-1)+"é", false)
			with(strings.Repeat("z", 1<<20), false)
			with(strings.Repeat("z", f.least)+"\r\na=x", false)
		}
	}
}

func TestGoodNumbersOfMedia(t *testing.T) {
	for n := range 20 {
		for _, media := range []func(string) api.Media{audio, data} {
			asks(t, strconv.Itoa(n)+" Media", of(n, media), n <= api.MostParts)
			d := of(n, media)
			d.Bundle = nil
			asks(t, strconv.Itoa(n)+" Media, no Bundle", d, n <= api.MostParts)
		}
	}
	asks(t, "no Media", of(0, audio), true)
	asks(t, "MostParts Media", of(api.MostParts, audio), true)
	asks(t, "one more", of(api.MostParts+1, audio), false)
	d := bare()
	d.Media = make([]api.Media, 1<<16)
	if desc.Good(d) {
		t.Error("very many Media")
	}
	unprinted(t, "very many Media", d)
}

// At each place one Media that isn't good.
func TestGoodMedia(t *testing.T) {
	for n := 1; n <= api.MostParts; n++ {
		for i := range n {
			for what, spoil := range map[string]func(*api.Media){
				"Port":      func(m *api.Media) { m.Port = 1 },
				"Kind":      func(m *api.Media) { m.Kind = 0 },
				"Direction": func(m *api.Media) { m.Direction = 4 },
				"Codecs":    func(m *api.Media) { m.Codecs = nil },
				"Channels":  func(m *api.Media) { m.Codecs[0].Channels = 0 },
				"SctpPort":  func(m *api.Media) { m.SctpPort = 1 },
				"Mid":       func(m *api.Media) { m.Mid = strings.Repeat("m", 17) },
				"no Mid":    func(m *api.Media) { m.Mid = "" },
				"all":       func(m *api.Media) { *m = api.Media{} },
			} {
				for _, bundled := range []bool{false, true} {
					d := of(n, audio)
					spoil(&d.Media[i])
					d.Bundle = nil
					if bundled {
						for _, m := range d.Media {
							d.Bundle = append(d.Bundle, m.Mid)
						}
					}
					asks(t, what+" of "+strconv.Itoa(i), d, false)
				}
			}
		}
	}
}

// Each two Media are given one Mid.
func TestGoodMids(t *testing.T) {
	for n := 2; n <= api.MostParts; n++ {
		for j := range n {
			for i := range j {
				what := strconv.Itoa(i) + " and " + strconv.Itoa(j) + " of " + strconv.Itoa(n)
				d := of(n, audio)
				d.Media[j] = data(d.Media[i].Mid)
				d.Bundle = nil
				asks(t, what, d, false)
				d.Bundle = []string{d.Media[i].Mid}
				asks(t, what+", bundled", d, false)
				d.Media[j].Mid = strings.ToUpper(d.Media[i].Mid)
				asks(t, what+" but for great letters", d, true)
			}
		}
	}
	long := strings.Repeat("m", 15)
	d := of(2, audio)
	d.Media[0].Mid, d.Media[1].Mid, d.Bundle = long+"0", long+"1", []string{long + "1", long + "0"}
	asks(t, "unlike at their ends", d, true)
}

func TestGoodBundles(t *testing.T) {
	for n := range api.MostParts + 1 {
		d := of(n, audio)
		slices.Reverse(d.Bundle)
		asks(t, "the other way round", d, true)
		for i := range n {
			d := of(n, audio)
			d.Bundle = d.Bundle[:i]
			asks(t, "some", d, true)
			d = of(n, audio)
			d.Bundle = slices.Delete(d.Bundle, i, i+1)
			asks(t, "all but one", d, true)
			for j := range n {
				d := of(n, audio)
				d.Bundle[i], d.Bundle[j] = d.Bundle[j], d.Bundle[i]
				asks(t, "another order", d, true)
				d = of(n, audio)
				d.Bundle[j] = d.Bundle[i]
				asks(t, "two alike in place of two", d, i == j)
				d = of(n, audio)
				d.Bundle = slices.Insert(d.Bundle, j, d.Bundle[i])
				asks(t, "two alike", d, false)
			}
			for _, mid := range []string{"", " ", "x", "m", "M" + strconv.Itoa(i), "m" + strconv.Itoa(i) + " ", " m" + strconv.Itoa(i), "m0 m1", "m" + strconv.Itoa(n), "m\x00", "BUNDLE", strings.Repeat("m", 17)} {
				d := of(n, audio)
				d.Bundle[i] = mid
				asks(t, "no Media's Mid: "+mid, d, false)
				d = of(n, audio)
				d.Bundle = append(d.Bundle[:i], mid)
				asks(t, "no Media's Mid at the end: "+mid, d, false)
			}
		}
		d = of(n, audio)
		d.Bundle = append(d.Bundle, "x")
		asks(t, "one more", d, false)
	}
	d := bare()
	d.Bundle = []string{""}
	asks(t, "one of no Mid", d, false)
	d.Bundle = []string{}
	asks(t, "an empty list", d, true)
	d = channel()
	d.Bundle = slices.Repeat([]string{"d"}, 1<<20)
	if desc.Good(d) {
		t.Error("very many that are alike")
	}
	d.Bundle = []string{strings.Repeat("d", 1<<20)}
	asks(t, "a long one", d, false)
	long := of(api.MostParts, data)
	for i := range long.Media {
		long.Media[i].Mid = strings.Repeat("m", 15) + strconv.Itoa(i)
		long.Bundle[api.MostParts-1-i] = long.Media[i].Mid
	}
	asks(t, "a group as long as may be", long, true)
}
