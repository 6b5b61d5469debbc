package judge_test

import (
	"slices"
	"strconv"
	"strings"
	"testing"

	"rostrum/api"
)

// asksCodecs asks what is told where the codecs are offered, and answered by own.
func asksCodecs(t *testing.T, what string, offered, own []api.Codec, want int) {
	t.Helper()
	for _, media := range streams() {
		o := media("m")
		o.Codecs = offered
		a := fit(o)
		a.Codecs = own
		one(t, what, o, a, want)
	}
}

// What is answered differs from what is offered in one thing alone, wherever it stands.
func TestCodecsThatDiffer(t *testing.T) {
	for what, x := range map[string]struct {
		set  func(*api.Codec)
		want int
	}{
		"nothing":          {func(c *api.Codec) {}, 0},
		"Type":             {func(c *api.Codec) { c.Type = 127 }, 4},
		"Type 0":           {func(c *api.Codec) { c.Type = 0 }, 4},
		"Type -1":          {func(c *api.Codec) { c.Type = -1 }, 1},
		"Name":             {func(c *api.Codec) { c.Name = "other" }, 4},
		"Name's case":      {func(c *api.Codec) { c.Name = strings.ToLower(c.Name) }, 4},
		"Name's end":       {func(c *api.Codec) { c.Name += "0" }, 4},
		"Name's beginning": {func(c *api.Codec) { c.Name = c.Name[:1] }, 4},
		"no Name":          {func(c *api.Codec) { c.Name = "" }, 1},
		"Clock":            {func(c *api.Codec) { c.Clock = 44100 }, 4},
		"Clock 1":          {func(c *api.Codec) { c.Clock = 1 }, 4},
		"no Clock":         {func(c *api.Codec) { c.Clock = 0 }, 1},
		"Channels":         {func(c *api.Codec) { c.Channels = 2 }, 4},
		"no Channels":      {func(c *api.Codec) { c.Channels = 0 }, 1},
		"Format":           {func(c *api.Codec) { c.Format = "other" }, 4},
		"Format's end":     {func(c *api.Codec) { c.Format += "x" }, 4},
		"Format's blank":   {func(c *api.Codec) { c.Format = strings.Replace(c.Format, "=", " = ", 1) }, 4},
		"no Format":        {func(c *api.Codec) { c.Format = "" }, 4},
		"Feedback less":    {func(c *api.Codec) { c.Feedback = nil }, 0},
		"Feedback more":    {func(c *api.Codec) { c.Feedback = []string{"other"} }, 4},
		"empty Feedback":   {func(c *api.Codec) { c.Feedback = []string{""} }, 1},
	} {
		var offered []api.Codec
		for i := range api.MostCodecs {
			offered = append(offered, api.Codec{Type: 10 + i, Name: "L" + strconv.Itoa(i), Clock: 8000, Channels: 1, Format: "a=" + strconv.Itoa(i), Feedback: []string{"nack"}})
		}
		for i := range offered {
			own := slices.Clone(offered)
			x.set(&own[i])
			asksCodecs(t, what, offered, own, x.want)
			asksCodecs(t, what+", alone", offered, own[i:i+1], x.want)
			asksCodecs(t, what+", of one that is offered alone", offered[i:i+1], own[i:i+1], x.want)
		}
	}
}

// Of the codecs that are offered each few in their order are right, and in no other.
func TestOrderOfCodecs(t *testing.T) {
	offered := video("").Codecs
	n := len(offered)
	// The places of the codecs that are answered, as a number of the base n+1, nought being none.
	most := (n + 1) * (n + 1) * (n + 1) * (n + 1)
	for word := range most {
		var own []api.Codec
		var places []int
		for left := word; left > 0; left /= n + 1 {
			if at := left % (n + 1); at > 0 {
				places = append(places, at)
				own = append(own, offered[at-1])
			}
		}
		want := 0
		switch slices.Sort(places); {
		case len(places) == 0, len(slices.Compact(places)) != len(own):
			want = 1
		case !slices.IsSortedFunc(own, func(a, b api.Codec) int { return a.Type - b.Type }):
			want = 4
		}
		asksCodecs(t, "word "+strconv.Itoa(word), offered, own, want)
	}
}

// mostCodecs are as many and as great ones as may be, alike in all but Type.
func mostCodecs() []api.Codec {
	var list []api.Codec
	for i := range api.MostCodecs {
		list = append(list, api.Codec{Type: 127 - i, Name: strings.Repeat("c", 32), Clock: 1000000, Channels: 2, Format: strings.Repeat("f", 100), Feedback: slices.Repeat([]string{strings.Repeat("b", 100)}, 8)})
	}
	return list
}

// mostExts are as many and as great ones as may be, alike in all but ID.
func mostExts() []api.Ext {
	var list []api.Ext
	for i := range api.MostExts {
		list = append(list, api.Ext{ID: i + 1, URI: strings.Repeat("u", 100)})
	}
	return list
}

// As many codecs as may be, and one left out at each place, and each two neighbours turned about.
func TestManyCodecs(t *testing.T) {
	offered := mostCodecs()
	asksCodecs(t, "all", offered, offered, 0)
	for i := range offered {
		asksCodecs(t, "one less", offered, slices.Delete(slices.Clone(offered), i, i+1), 0)
		asksCodecs(t, "one alone", offered, offered[i:i+1], 0)
		asksCodecs(t, "one offered less", slices.Delete(slices.Clone(offered), i, i+1), offered, 4)
		asksCodecs(t, "one twice", offered, append(slices.Clone(offered[:i+1]), offered[i]), 1)
		turned := slices.Clone(offered)
		j := (i + 1) % len(turned)
		turned[i], turned[j] = turned[j], turned[i]
		asksCodecs(t, "turned about", offered, turned, 4)
		asksCodecs(t, "the offer turned about", turned, offered, 4)
	}
}

// Codecs that are alike in all but Type are codecs of their own; alike in all but Feedback they make no good offer.
func TestTwins(t *testing.T) {
	twin := func(kind int, feedback ...string) api.Codec {
		return api.Codec{Type: kind, Name: "VP8", Clock: 90000, Channels: 1, Format: "x", Feedback: feedback}
	}
	list := func(x ...api.Codec) []api.Codec { return x }
	alike := list(twin(5, "a", "b"), twin(6, "a", "b"))
	apart := list(twin(9, "a"), twin(8, "b"), twin(7))
	for what, x := range map[string]struct {
		offered, own []api.Codec
		want         int
	}{
		"both":                       {alike, alike, 0},
		"the first":                  {alike, list(twin(5, "b")), 0},
		"the second":                 {alike, list(twin(6, "b")), 0},
		"both turned":                {alike, list(twin(6), twin(5)), 4},
		"a third":                    {alike, list(twin(5), twin(6), twin(7)), 4},
		"one that isn't offered":     {alike, list(twin(7)), 4},
		"one twice":                  {alike, list(twin(5), twin(5)), 1},
		"Types changed about":        {list(twin(5, "a"), twin(6, "b")), list(twin(5, "b"), twin(6, "a")), 4},
		"the first one's Feedback":   {apart, list(twin(9, "a")), 0},
		"the second one's Feedback":  {apart, list(twin(8, "b")), 0},
		"Feedback of the next":       {apart, list(twin(9, "b")), 4},
		"Feedback of the one ahead":  {apart, list(twin(8, "a")), 4},
		"Feedback of one with none":  {apart, list(twin(7, "b")), 4},
		"Feedback of both":           {apart, list(twin(9, "a", "b"), twin(8, "b")), 4},
		"Feedback of both, behind":   {apart, list(twin(9, "a"), twin(8, "a", "b")), 4},
		"all with their Feedback":    {apart, apart, 0},
		"alike in all but Feedback":  {list(twin(5, "a"), twin(5, "b")), list(twin(5)), 1},
		"so answered":                {list(twin(5, "a", "b")), list(twin(5, "a"), twin(5, "b")), 1},
		"alike in all but Clock":     {list(twin(5), api.Codec{Type: 6, Name: "VP8", Clock: 1, Channels: 1, Format: "x"}), list(api.Codec{Type: 5, Name: "VP8", Clock: 1, Channels: 1, Format: "x"}), 4},
		"one's Type, other's Format": {list(twin(5), api.Codec{Type: 6, Name: "VP8", Clock: 90000, Channels: 1}), list(api.Codec{Type: 5, Name: "VP8", Clock: 90000, Channels: 1}), 4},
	} {
		asksCodecs(t, what, x.offered, x.own, x.want)
	}
}

func TestFeedback(t *testing.T) {
	for _, x := range []struct {
		offered, own []string
		want         int
	}{
		{nil, nil, 0},
		{nil, []string{"nack"}, 4},
		{[]string{"nack"}, nil, 0},
		{[]string{"nack"}, []string{"nack"}, 0},
		{[]string{"nack"}, []string{"nack", "nack"}, 0},
		{[]string{"nack", "nack"}, []string{"nack"}, 0},
		{[]string{"a", "b", "c"}, []string{"c", "b", "a"}, 0},
		{[]string{"a", "b", "c"}, []string{"b", "a", "b", "c", "b", "a", "c", "c"}, 0},
		{[]string{"a", "b", "c"}, []string{"b"}, 0},
		{[]string{"a", "b", "c"}, []string{"x", "a", "b"}, 4},
		{[]string{"a", "b", "c"}, []string{"a", "x", "b"}, 4},
		{[]string{"a", "b", "c"}, []string{"a", "b", "x"}, 4},
		{[]string{"nack pli"}, []string{"nack"}, 4},
		{[]string{"nack"}, []string{"nack pli"}, 4},
		{[]string{"nack", "pli"}, []string{"nack pli"}, 4},
		{[]string{"nack"}, []string{"NACK"}, 4},
		{[]string{"nack"}, []string{" nack"}, 1},
		{[]string{"nack"}, slices.Repeat([]string{"nack"}, 8), 0},
		{[]string{"nack"}, slices.Repeat([]string{"nack"}, 9), 1},
	} {
		offered, own := video("").Codecs, video("").Codecs
		for i := range offered {
			offered[i].Feedback, own[i].Feedback = x.offered, x.own
			asksCodecs(t, strings.Join(x.own, ","), offered, own, x.want)
			asksCodecs(t, strings.Join(x.own, ",")+", of one", offered, own[i:i+1], x.want)
			offered[i].Feedback, own[i].Feedback = []string{"other"}, nil
		}
	}
}

func TestExts(t *testing.T) {
	a, b, c := api.Ext{ID: 1, URI: "a"}, api.Ext{ID: 2, URI: "b"}, api.Ext{ID: 14, URI: "c"}
	list := func(x ...api.Ext) []api.Ext { return x }
	all := list(b, a, c)
	for what, x := range map[string]struct {
		offered, own []api.Ext
		want         int
	}{
		"none":                 {nil, nil, 0},
		"none of three":        {all, nil, 0},
		"all":                  {all, all, 0},
		"all, sorted":          {all, list(a, b, c), 0},
		"all, turned":          {all, list(c, a, b), 0},
		"two, turned":          {all, list(c, b), 0},
		"the last":             {all, list(c), 0},
		"one that isn't":       {list(a, b), list(c), 5},
		"one that isn't, last": {list(a, b), list(a, b, c), 5},
		"one of none":          {nil, list(a), 5},
		"ID":                   {all, list(api.Ext{ID: 3, URI: "a"}), 5},
		"another one's ID":     {all, list(api.Ext{ID: 2, URI: "a"}), 5},
		"URI":                  {all, list(api.Ext{ID: 1, URI: "x"}), 5},
		"another one's URI":    {all, list(api.Ext{ID: 1, URI: "b"}), 5},
		"URI's case":           {all, list(api.Ext{ID: 1, URI: "A"}), 5},
		"URI's end":            {all, list(api.Ext{ID: 1, URI: "aa"}), 5},
		"IDs changed about":    {all, list(api.Ext{ID: 2, URI: "a"}, api.Ext{ID: 1, URI: "b"}), 5},
		"between":              {all, list(a, api.Ext{ID: 3, URI: "b"}, c), 5},
		"one URI twice":        {list(a, api.Ext{ID: 2, URI: "a"}), list(api.Ext{ID: 2, URI: "a"}, a), 0},
		"one URI once":         {list(a, api.Ext{ID: 2, URI: "a"}), list(api.Ext{ID: 2, URI: "a"}), 0},
		"one twice":            {all, list(a, a), 1},
		"ID 15":                {all, list(api.Ext{ID: 15, URI: "a"}), 1},
		"an empty URI":         {all, list(api.Ext{ID: 1}), 1},
	} {
		for _, media := range streams() {
			o := media("m")
			o.Exts = x.offered
			own := fit(o)
			own.Exts = x.own
			one(t, what, o, own, x.want)
		}
	}
	many := mostExts()
	for i := range many {
		o := video("m")
		o.Exts = many
		own := fit(o)
		own.Exts = slices.Clone(many)
		slices.Reverse(own.Exts)
		one(t, "many", o, own, 0)
		own.Exts[i].URI = own.Exts[i].URI[1:]
		one(t, "one of many", o, own, 5)
	}
}

// Each Direction of an offer with each of an answer.
func TestDirections(t *testing.T) {
	const most = api.Send + api.Recv
	fits := map[int][]int{0: {0}, api.Send: {0, api.Recv}, api.Recv: {0, api.Send}, most: {0, api.Send, api.Recv, most}}
	for offered := -1; offered <= most+1; offered++ {
		for own := -1; own <= most+1; own++ {
			for _, media := range kinds() {
				o, a := media("m"), fit(media("m"))
				o.Direction, a.Direction = offered, own
				want := 6
				switch {
				case min(offered, own) < 0, max(offered, own) > most:
					want = 1
				case slices.Contains(fits[offered], own):
					want = 0
				}
				one(t, strconv.Itoa(offered)+" and "+strconv.Itoa(own), o, a, want)
			}
		}
	}
}

func TestRids(t *testing.T) {
	three := []string{"q", "h", "f"}
	for what, x := range map[string]struct {
		offered, own []string
		within       bool
	}{
		"all":                   {three, three, true},
		"all, turned":           {three, []string{"f", "h", "q"}, true},
		"two":                   {three, []string{"f", "q"}, true},
		"one":                   {three, []string{"h"}, true},
		"one of one":            {[]string{"-"}, []string{"-"}, true},
		"the first isn't":       {three, []string{"x", "h", "f"}, false},
		"one between isn't":     {three, []string{"q", "x", "f"}, false},
		"the last isn't":        {three, []string{"q", "h", "x"}, false},
		"the only one isn't":    {three, []string{"x"}, false},
		"one more":              {three[:2], three, false},
		"case":                  {three, []string{"Q"}, false},
		"one's end":             {three, []string{"qq"}, false},
		"one's beginning":       {[]string{"qq"}, []string{"q"}, false},
		"some where none are":   {nil, []string{"q"}, false},
		"three where none are":  {nil, three, false},
		"eight bytes":           {[]string{"01234567"}, []string{"01234567"}, true},
		"eight bytes, another":  {[]string{"01234567"}, []string{"01234568"}, false},
		"none where one is":     {[]string{"q"}, nil, true},
		"none where three are":  {three, nil, true},
		"none where there none": {nil, nil, true},
	} {
		for _, media := range streams() {
			for mask := range 4 {
				offered, own := mask&1 == 1, mask&2 == 2
				want := 0
				switch {
				case len(x.offered) == 0 && offered, len(x.own) == 0 && own:
					want = 1
				case len(x.own) > 0 && (!x.within || offered == own):
					want = 7
				}
				o := media("m")
				o.Rids, o.Sending = x.offered, offered
				a := fit(media("m"))
				a.Rids, a.Sending = x.own, own
				one(t, what+", "+strconv.Itoa(mask), o, a, want)
			}
		}
	}
}

// Each Tag of an offer with each of an answer, and none with each, whatever the keys are.
func TestCrypto(t *testing.T) {
	keys := [][30]byte{{}, {0: 1}, {29: 255}}
	crypto := func(tag int, key [30]byte) []api.Crypto {
		if tag == 0 {
			return nil
		}
		return []api.Crypto{{Tag: tag, Key: key}}
	}
	for offered := range 10 {
		for own := range 10 {
			for _, media := range streams() {
				for _, key := range keys {
					o, a := media("m"), fit(media("m"))
					o.Crypto, a.Crypto = crypto(offered, keys[1]), crypto(own, key)
					want := 0
					if offered != own {
						want = 8
					}
					one(t, strconv.Itoa(offered)+" and "+strconv.Itoa(own), o, a, want)
				}
			}
		}
	}
	o, a := video("m"), fit(video("m"))
	a.Crypto = append(a.Crypto, a.Crypto[0])
	one(t, "two", o, a, 1)
	a.Crypto = []api.Crypto{{}}
	one(t, "Tag 0", o, a, 1)
	a.Crypto = []api.Crypto{{Tag: 10}}
	one(t, "Tag 10", o, a, 1)
}

// Data's SctpPorts needn't be alike; one of 0 isn't good, and a stream has none.
func TestSctpPorts(t *testing.T) {
	ports := []int{1, 9, 5000, 65535, 0, -1, 65536}
	for i, offered := range ports {
		for j, own := range ports {
			want := 0
			if max(i, j) > 3 {
				want = 1
			}
			o, a := data("d"), data("d")
			o.SctpPort, a.SctpPort = offered, own
			one(t, strconv.Itoa(offered)+" and "+strconv.Itoa(own), o, a, want)
			a.Port = 0
			one(t, strconv.Itoa(offered)+" and "+strconv.Itoa(own)+", not taken", o, a, want)
		}
	}
	for _, media := range streams() {
		a := fit(media("m"))
		a.SctpPort = 5000
		one(t, "a stream's", media("m"), a, 1)
	}
	a := data("d")
	a.Crypto = []api.Crypto{{Tag: 1}}
	one(t, "Data's Crypto", data("d"), a, 1)
}

// Sources are nothing that a rule asks for but that they are good.
func TestSources(t *testing.T) {
	var most []uint32
	for i := range api.MostSources {
		most = append(most, uint32(i))
	}
	lists := [][]uint32{nil, {0}, {77}, {77, 0}, most}
	for _, offered := range lists {
		for _, own := range lists {
			o, a := video("m"), fit(video("m"))
			o.Sources, a.Sources = offered, own
			one(t, "sources", o, a, 0)
			a.Sources = append(slices.Clone(most), 99)
			one(t, "too many sources", o, a, 1)
		}
	}
}
