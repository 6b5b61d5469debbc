package answer_test

import (
	"slices"
	"strconv"
	"testing"

	"rostrum/api"
)

func TestDirections(t *testing.T) {
	turned := []int{0: 0, api.Send: api.Recv, api.Recv: api.Send, api.Send + api.Recv: api.Send + api.Recv}
	for direction, want := range turned {
		for _, media := range kinds() {
			m := media("m")
			m.Direction = direction
			if got := one(t, "direction "+strconv.Itoa(direction), m, config()); got.Direction != want || got.Port != 9 {
				t.Errorf("%d: %s", direction, short(got))
			}
			m.Port = 0
			if got := one(t, "refused", m, config()); got.Direction != 0 {
				t.Errorf("%d: %s", direction, short(got))
			}
		}
	}
}

// A codec is offered beside one that is common, and the Config has one that differs in one thing alone.
func TestCodecsThatDiffer(t *testing.T) {
	base := api.Codec{Type: 50, Name: "L16", Clock: 44100, Channels: 1, Format: "x", Feedback: []string{"nack"}}
	for what, set := range map[string]struct {
		to     func(*api.Codec)
		common bool
	}{
		"nothing":            {func(c *api.Codec) {}, true},
		"Name":               {func(c *api.Codec) { c.Name = "L24" }, false},
		"Name's case":        {func(c *api.Codec) { c.Name = "l16" }, false},
		"Name's end":         {func(c *api.Codec) { c.Name = "L160" }, false},
		"Name's beginning":   {func(c *api.Codec) { c.Name = "L1" }, false},
		"no Name":            {func(c *api.Codec) { c.Name = "" }, false},
		"Clock":              {func(c *api.Codec) { c.Clock = 44101 }, false},
		"Clock 1":            {func(c *api.Codec) { c.Clock = 1 }, false},
		"no Clock":           {func(c *api.Codec) { c.Clock = 0 }, false},
		"Channels":           {func(c *api.Codec) { c.Channels = 2 }, false},
		"no Channels":        {func(c *api.Codec) { c.Channels = 0 }, false},
		"Type":               {func(c *api.Codec) { c.Type = 51 }, true},
		"no Type":            {func(c *api.Codec) { c.Type = 0 }, true},
		"Format":             {func(c *api.Codec) { c.Format = "y" }, true},
		"no Format":          {func(c *api.Codec) { c.Format = "" }, true},
		"more Feedback":      {func(c *api.Codec) { c.Feedback = []string{"x", "nack"} }, true},
		"Type and Format":    {func(c *api.Codec) { c.Type, c.Format = 96, "" }, true},
		"Clock and Channels": {func(c *api.Codec) { c.Clock, c.Channels = 1, 2 }, false},
	} {
		for _, media := range []func(string) api.Media{audio, video} {
			c := config()
			own := base
			set.to(&own)
			c.Codecs = append(c.Codecs, own)
			m := media("m")
			m.Codecs = slices.Insert(m.Codecs, 0, base)
			got := one(t, what, m, c)
			if (got.Codecs[0].Type == base.Type) != set.common || set.common && !same(got.Codecs[0], base) {
				t.Errorf("%s: %s", what, short(got))
			}
			c.Codecs = c.Codecs[len(c.Codecs)-1:]
			m.Codecs = m.Codecs[:1]
			if got := one(t, what+" alone", m, c); (got.Port == 9) != set.common || !same(got.Codecs, []api.Codec{base}) {
				t.Errorf("%s alone: %s", what, short(got))
			}
		}
	}
}

// Of the Config's codecs that are alike but for Feedback the first one counts, wherever they stand.
func TestFirstOfTheConfigs(t *testing.T) {
	alike := func(feedback ...string) api.Codec {
		return api.Codec{Name: "VP8", Clock: 90000, Channels: 1, Feedback: feedback}
	}
	m := video("v")
	m.Codecs = []api.Codec{alike("a", "b", "c")}
	for _, x := range []struct {
		own  []api.Codec
		want []string
	}{
		{[]api.Codec{alike("a"), alike("b")}, []string{"a"}},
		{[]api.Codec{alike("b"), alike("a")}, []string{"b"}},
		{[]api.Codec{alike(), alike("a", "b", "c")}, nil},
		{[]api.Codec{alike("x"), alike("a", "b", "c")}, nil},
		{[]api.Codec{alike("a", "b", "c"), alike()}, []string{"a", "b", "c"}},
		{[]api.Codec{{Name: "VP8", Clock: 90000, Channels: 2, Feedback: []string{"a"}}, alike("c"), alike("b")}, []string{"c"}},
		{[]api.Codec{{Name: "VP8", Clock: 1, Channels: 1, Feedback: []string{"a"}}, alike("b"), alike("c"), alike("b")}, []string{"b"}},
	} {
		if got := one(t, "two alike", m, api.Config{Codecs: x.own}); !slices.Equal(got.Codecs[0].Feedback, x.want) {
			t.Errorf("%s: %s", short(x.own), short(got))
		}
	}
}

// Codecs of one Name, Clock and Channels are common each, with Types and Formats of their own.
func TestCodecOfferedTwice(t *testing.T) {
	m := video("v")
	for i := range 3 {
		twin := m.Codecs[0]
		twin.Type, twin.Format, twin.Feedback = i, "twin="+strconv.Itoa(i), []string{"nack pli", "x", "nack"}[i:]
		m.Codecs = slices.Insert(m.Codecs, i*2, twin)
	}
	got := one(t, "twice", m, config())
	var types []int
	for _, c := range got.Codecs {
		types = append(types, c.Type)
	}
	if !slices.Equal(types, []int{0, 96, 1, 2, 102}) || got.Codecs[2].Format != "twin=1" || !slices.Equal(got.Codecs[0].Feedback, []string{"nack pli", "nack"}) || !slices.Equal(got.Codecs[3].Feedback, []string{"nack"}) {
		t.Error(short(got))
	}
	m = audio("a")
	m.Codecs = append(m.Codecs, m.Codecs[0])
	m.Codecs[1].Type++
	if got := one(t, "alike but for Type", m, config()); !same(got.Codecs, m.Codecs) {
		t.Error(short(got))
	}
}

// orders are all orders of the list.
func orders[T any](list []T) [][]T {
	if len(list) == 0 {
		return [][]T{nil}
	}
	var all [][]T
	for i, x := range list {
		rest := slices.Delete(slices.Clone(list), i, i+1)
		for _, o := range orders(rest) {
			all = append(all, append([]T{x}, o...))
		}
	}
	return all
}

// The order is the offer's, whatever the Config's is.
func TestOrderOfCodecs(t *testing.T) {
	for _, own := range orders(append(config().Codecs, api.Codec{Name: "VP9", Clock: 90000, Channels: 1, Feedback: []string{"x"}})) {
		for _, offered := range orders(video("v").Codecs) {
			c, m := config(), video("v")
			c.Codecs, m.Codecs = own, offered
			got := one(t, "another order", m, c)
			alike := slices.EqualFunc(got.Codecs, offered, func(a, b api.Codec) bool {
				return a.Type == b.Type && a.Name == b.Name && a.Clock == b.Clock && a.Channels == b.Channels && a.Format == b.Format
			})
			if !alike {
				t.Errorf("%s of %s", short(got), short(offered))
			}
		}
	}
}

func TestFeedback(t *testing.T) {
	for _, x := range []struct{ offered, own, want []string }{
		{nil, nil, nil},
		{nil, []string{"nack"}, nil},
		{[]string{"nack"}, nil, nil},
		{[]string{"nack"}, []string{"nack"}, []string{"nack"}},
		{[]string{"nack", "x"}, []string{"nack"}, []string{"nack"}},
		{[]string{"x", "nack"}, []string{"nack"}, []string{"nack"}},
		{[]string{"nack"}, []string{"x", "nack", "y"}, []string{"nack"}},
		{[]string{"a", "b", "c"}, []string{"c", "b", "a"}, []string{"a", "b", "c"}},
		{[]string{"c", "a", "b"}, []string{"a", "b", "c"}, []string{"c", "a", "b"}},
		{[]string{"c", "x", "a", "y", "b"}, []string{"b", "c"}, []string{"c", "b"}},
		{[]string{"a", "b", "a"}, []string{"a", "b"}, []string{"a", "b", "a"}},
		{[]string{"a", "b", "a", "a"}, []string{"a"}, []string{"a", "a", "a"}},
		{[]string{"a", "b"}, []string{"a", "a", "b", "b"}, []string{"a", "b"}},
		{[]string{"nack pli"}, []string{"nack", "pli"}, nil},
		{[]string{"nack", "pli"}, []string{"nack pli"}, nil},
		{[]string{"nack"}, []string{"NACK", "nac", "nackx", " nack", ""}, nil},
		{[]string{"1", "2", "3", "4", "5", "6", "7", "8"}, []string{"8", "6", "4", "2", "0"}, []string{"2", "4", "6", "8"}},
	} {
		c := api.Config{Codecs: []api.Codec{{Name: "opus", Clock: 48000, Channels: 2, Feedback: x.own}, {Name: "VP8", Clock: 90000, Channels: 1, Feedback: []string{"a", "nack"}}}}
		m := audio("a")
		m.Codecs[0].Feedback = x.offered
		if got := one(t, "feedback", m, c); !slices.Equal(got.Codecs[0].Feedback, x.want) {
			t.Errorf("%q of %q and %q", got.Codecs[0].Feedback, x.offered, x.own)
		}
	}
}

func TestExts(t *testing.T) {
	offered := []api.Ext{{ID: 5, URI: "b"}, {ID: 1, URI: "a"}, {ID: 14, URI: "c"}}
	for _, list := range orders(offered) {
		for _, x := range []struct {
			own  []string
			left []string
		}{
			{nil, nil}, {[]string{""}, nil}, {[]string{"x", "A", "aa", "ab", " a", "a "}, nil},
			{[]string{"a"}, []string{"a"}}, {[]string{"c", "a"}, []string{"a", "c"}}, {[]string{"a", "x", "c", "a"}, []string{"a", "c"}},
			{[]string{"a", "b", "c"}, []string{"a", "b", "c"}}, {[]string{"c", "b", "a"}, []string{"a", "b", "c"}},
		} {
			var want []api.Ext
			for _, e := range list {
				if slices.Contains(x.left, e.URI) {
					want = append(want, e)
				}
			}
			for _, m := range []api.Media{audio("m"), video("m")} {
				m.Exts = list
				c := config()
				c.Exts = x.own
				if got := one(t, "exts", m, c); !slices.Equal(got.Exts, want) {
					t.Errorf("%v of %v and %q", got.Exts, list, x.own)
				}
			}
		}
	}
	m := audio("m")
	m.Exts = []api.Ext{{ID: 2, URI: "urn:mid"}, {ID: 3, URI: "x"}, {ID: 1, URI: "urn:mid"}}
	if got := one(t, "one URI twice", m, config()); !slices.Equal(got.Exts, []api.Ext{{ID: 2, URI: "urn:mid"}, {ID: 1, URI: "urn:mid"}}) {
		t.Error(short(got))
	}
}

func TestRids(t *testing.T) {
	for n := range api.MostRids + 1 {
		for _, sending := range []bool{false, true} {
			for _, m := range []api.Media{audio("m"), video("m")} {
				for direction := range 4 {
					m.Rids, m.Sending, m.Direction = []string{"q", "f", "h"}[:n], sending && n > 0, direction
					want := m.Rids
					if !m.Sending {
						want = nil
					}
					if got := one(t, "rids", m, config()); !slices.Equal(got.Rids, want) || got.Sending {
						t.Errorf("%s of %s", short(got), short(m))
					}
				}
			}
		}
	}
}

func TestSources(t *testing.T) {
	for n := range api.MostSources + 1 {
		for _, m := range []api.Media{audio("m"), video("m")} {
			m.Sources = nil
			for i := range n {
				m.Sources = append(m.Sources, uint32(i))
			}
			if got := one(t, "sources", m, config()); len(got.Sources) != 0 || got.Port != 9 {
				t.Errorf("%s of %s", short(got), short(m))
			}
		}
	}
}

// The offered Tag and the key that is handed in, whatever the offered key is.
func TestCrypto(t *testing.T) {
	for tag := 1; tag <= 9; tag++ {
		for _, offered := range [][30]byte{{}, key, {0: 255}, {29: 1}} {
			for _, m := range []api.Media{audio("m"), video("m")} {
				m.Crypto = []api.Crypto{{Tag: tag, Key: offered}}
				if got := one(t, "crypto", m, config()); !slices.Equal(got.Crypto, []api.Crypto{{Tag: tag, Key: key}}) {
					t.Errorf("%d: %s", tag, short(got))
				}
			}
		}
	}
	if got := one(t, "data", data("d"), config()); len(got.Crypto) != 0 {
		t.Error(short(got))
	}
}

func TestData(t *testing.T) {
	for _, port := range []int{1, 9, 80, 5000, 65534, 65535} {
		for _, able := range []bool{false, true} {
			for direction := range 4 {
				m := data("d")
				m.SctpPort, m.Direction = port, direction
				c := config()
				c.Data = able
				if got := one(t, "data", m, c); got.SctpPort != port || (got.Port == 9) != able || got.Kind != api.Data {
					t.Errorf("%d: %s", port, short(got))
				}
			}
		}
	}
}

// Data needs neither codecs nor a key, and Audio and Video don't need that the Config can do Data.
func TestKindsApart(t *testing.T) {
	offer := mixed(6)
	for what, x := range map[string]struct {
		c    api.Config
		want []string
	}{
		"Data alone":     {api.Config{Data: true}, []string{"m2", "m5"}},
		"no Data":        {api.Config{Codecs: config().Codecs}, []string{"m0", "m1", "m3", "m4"}},
		"Audio alone":    {api.Config{Codecs: config().Codecs[1:2]}, []string{"m0", "m3"}},
		"Video and Data": {api.Config{Codecs: config().Codecs[2:], Data: true}, []string{"m1", "m2", "m4", "m5"}},
		"nothing":        {api.Config{Exts: config().Exts}, nil},
	} {
		right(t, what, offer, x.c)
		if got, _ := run(offer, x.c); !slices.Equal(got.Bundle, x.want) {
			t.Errorf("%s: %s", what, short(got))
		}
	}
	// A codec's name says nothing of the kind.
	m := audio("m")
	m.Codecs = video("m").Codecs
	if got := one(t, "VP8 in Audio", m, config()); got.Port != 9 || got.Kind != api.Audio || len(got.Codecs) != 2 {
		t.Error(short(got))
	}
}
