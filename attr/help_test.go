package attr_test

import (
	"encoding/base64"
	"fmt"
	"reflect"
	"regexp"
	"slices"
	"strconv"
	"strings"
	"testing"

	"rostrum/api"
	"rostrum/attr"
	"rostrum/sdp"
)

// video is a Media that has something of everything.
func video() api.Media {
	return api.Media{
		Kind: api.Video, Port: 9, Mid: "v-1", Direction: api.Send,
		Codecs: []api.Codec{
			{Type: 96, Name: "VP8", Clock: 90000, Channels: 1, Feedback: []string{"nack", "nack pli"}},
			{Type: 102, Name: "H264", Clock: 90000, Channels: 1, Format: "profile-level-id=42e01f; packetization-mode=1", Feedback: []string{"nack"}},
			{Type: 0, Name: "x", Clock: 1, Channels: 2, Format: "a/b:c"},
		},
		Exts:    []api.Ext{{ID: 3, URI: "urn:ietf:params:rtp-hdrext:sdes:mid"}, {ID: 14, URI: "x"}},
		Rids:    []string{"q", "h", "f"},
		Sending: true,
		Sources: []uint32{4294967295, 0, 77},
		Crypto:  []api.Crypto{{Tag: 1, Key: key()}},
	}
}

// audio is a Media that has no more than it must.
func audio() api.Media {
	return api.Media{Kind: api.Audio, Mid: "a", Direction: api.Recv, Codecs: []api.Codec{{Type: 111, Name: "opus", Clock: 48000, Channels: 2}}}
}

func data() api.Media {
	return api.Media{Kind: api.Data, Port: 9, Mid: "d", Direction: 3, SctpPort: 5000}
}

func all() []api.Media { return []api.Media{video(), audio(), data()} }

func key() [30]byte {
	var k [30]byte
	for i := range k {
		k[i] = byte(251 - 37*i)
	}
	return k
}

// numbered is n members of a list, each made of its number.
func numbered[T any](n int, member func(int) T) []T {
	var list []T
	for i := range n {
		list = append(list, member(i))
	}
	return list
}

func codec(i int) api.Codec {
	return api.Codec{Type: i, Name: "c" + strconv.Itoa(i), Clock: i + 1, Channels: 1 + i%2}
}

func ext(i int) api.Ext { return api.Ext{ID: i + 1, URI: "urn:" + strconv.Itoa(i)} }

func rid(i int) string { return "r" + strconv.Itoa(i) }

func source(i int) uint32 { return uint32(7 * i) }

func crypto(i int) api.Crypto { return api.Crypto{Tag: i + 1, Key: key()} }

func feedback(int) string { return "nack" }

// most is a Media whose part would have n attributes.
func most(n int) api.Media {
	m := video()
	m.Codecs = numbered(api.MostCodecs, codec)
	m.Rids, m.Sending, m.Exts, m.Crypto = nil, false, nil, nil
	m.Sources = numbered(api.MostSources, source)
	for left := n - 2 - api.MostCodecs - api.MostSources; left > 0; left-- {
		c := &m.Codecs[left%api.MostCodecs]
		c.Feedback = append(c.Feedback, "nack "+strconv.Itoa(left))
	}
	return m
}

// unlisted is m with nil in the place of lists without members.
func unlisted(m api.Media) api.Media {
	m.Codecs = slices.Clone(m.Codecs)
	for i, c := range m.Codecs {
		if len(c.Feedback) == 0 {
			m.Codecs[i].Feedback = nil
		}
	}
	return api.Media{
		Kind: m.Kind, Port: m.Port, Mid: m.Mid, Direction: m.Direction, Codecs: orNil(m.Codecs), Exts: orNil(m.Exts),
		Rids: orNil(m.Rids), Sending: m.Sending, Sources: orNil(m.Sources), Crypto: orNil(m.Crypto), SctpPort: m.SctpPort,
	}
}

func orNil[T any](list []T) []T {
	if len(list) == 0 {
		return nil
	}
	return list
}

func same(a, b api.Media) bool { return reflect.DeepEqual(unlisted(a), unlisted(b)) }

func samePart(a, b sdp.Part) bool {
	return a.Line == b.Line && a.Conn == b.Conn && slices.Equal(a.Attrs, b.Attrs)
}

// short is what is to be told, cut where it is too long.
func short(x any) string {
	s := fmt.Sprintf("%+q", fmt.Sprint(x))
	return s[:min(len(s), 600)]
}

// laid is m's part as the chapter's words lay it.
func laid(m api.Media) sdp.Part {
	names := map[int]string{api.Audio: "audio", api.Video: "video", api.Data: "application"}
	p := sdp.Part{Conn: "IN IP4 0.0.0.0"}
	add := func(name, form string, args ...any) {
		p.Attrs = append(p.Attrs, sdp.Attr{Name: name, Value: fmt.Sprintf(form, args...)})
	}
	add("mid", "%s", m.Mid)
	add(map[int]string{0: "inactive", 1: "sendonly", 2: "recvonly", 3: "sendrecv"}[m.Direction], "")
	types := ""
	for _, c := range m.Codecs {
		types += fmt.Sprintf(" %d", c.Type)
		add("rtpmap", "%d %s/%d%s", c.Type, c.Name, c.Clock, map[int]string{2: "/2"}[c.Channels])
		if c.Format != "" {
			add("fmtp", "%d %s", c.Type, c.Format)
		}
		for _, f := range c.Feedback {
			add("rtcp-fb", "%d %s", c.Type, f)
		}
	}
	for _, x := range m.Exts {
		add("extmap", "%d %s", x.ID, x.URI)
	}
	way := map[bool]string{false: "recv", true: "send"}[m.Sending]
	for _, r := range m.Rids {
		add("rid", "%s %s", r, way)
	}
	if len(m.Rids) > 0 {
		add("simulcast", "%s %s", way, strings.Join(m.Rids, ";"))
	}
	for _, s := range m.Sources {
		add("ssrc", "%d", s)
	}
	for _, c := range m.Crypto {
		add("crypto", "%d AES_CM_128_HMAC_SHA1_80 inline:%s", c.Tag, base64.StdEncoding.EncodeToString(c.Key[:]))
	}
	p.Line = fmt.Sprintf("%s %d RTP/SAVPF%s", names[m.Kind], m.Port, types)
	if m.Kind == api.Data {
		p.Line = fmt.Sprintf("application %d UDP/SCTP webrtc-datachannel", m.Port)
		add("sctp-port", "%d", m.SctpPort)
	}
	return p
}

// The names that are known.
var knownNames = strings.Fields("mid inactive sendonly recvonly sendrecv rtpmap fmtp rtcp-fb extmap rid simulcast ssrc crypto sctp-port")

// known is p without the attributes whose names aren't known.
func known(p sdp.Part) sdp.Part {
	var list []sdp.Attr
	for _, a := range p.Attrs {
		if slices.Contains(knownNames, a.Name) {
			list = append(list, a)
		}
	}
	p.Attrs = list
	return p
}

// The lines of a part whose attributes are all known, as a grammar of the tests' own.
const (
	num    = `(0|[1-9][0-9]*)`
	said   = `([!-~](?:[ -~]{0,98}[!-~])?)`
	letter = `[A-Za-z0-9_-]`
)

var rules = map[string]*regexp.Regexp{
	"audio": rule(`(audio|video) (0|9) RTP/SAVPF((?: ` + num + `)+)`),
	"data":  rule(`application (0|9) UDP/SCTP webrtc-datachannel`),

	"mid":       rule(`(` + letter + `{1,16})`),
	"inactive":  rule(``),
	"sendonly":  rule(``),
	"recvonly":  rule(``),
	"sendrecv":  rule(``),
	"rtpmap":    rule(num + ` (` + letter + `{1,32})/` + num + `(/2)?`),
	"fmtp":      rule(num + ` ` + said),
	"rtcp-fb":   rule(num + ` ` + said),
	"extmap":    rule(num + ` ([!-~]{1,100})`),
	"rid":       rule(`(` + letter + `{1,8}) (send|recv)`),
	"simulcast": rule(`(send|recv) ([^ ]+)`),
	"ssrc":      rule(num),
	"crypto":    rule(`([1-9]) AES_CM_128_HMAC_SHA1_80 inline:([A-Za-z0-9+/]{40})`),
	"sctp-port": rule(num),
}

func rule(s string) *regexp.Regexp { return regexp.MustCompile(`\A(?:` + s + `)\z`) }

// order is how the names of a part's attributes may stand behind each other.
var order = rule(`mid (inactive|sendonly|recvonly|sendrecv) (sctp-port |(rtpmap (fmtp )?(rtcp-fb )*)+(extmap )*((rid )+simulcast )?(ssrc )*(crypto )?)`)

// within asks whether the number whose text s is, is one from low to high.
func within(s string, low, high int) (int, bool) {
	n, e := strconv.Atoi(s)
	return n, e == nil && n >= low && n <= high
}

// meant tells what p says, by the grammar; false, if it is no Media's part.
func meant(p sdp.Part) (api.Media, bool) {
	p = known(p)
	names := ""
	for _, a := range p.Attrs {
		names += a.Name + " "
		if !rules[a.Name].MatchString(a.Value) {
			return api.Media{}, false
		}
	}
	if !order.MatchString(names) || len(p.Attrs) > api.MostAttrs || p.Conn != "IN IP4 0.0.0.0" {
		return api.Media{}, false
	}
	m, types, fine := meantLine(p.Line)
	if !fine || (m.Kind == api.Data) != strings.HasSuffix(names, "sctp-port ") {
		return api.Media{}, false
	}
	for _, a := range p.Attrs {
		if !meantAttr(&m, a.Name, rules[a.Name].FindStringSubmatch(a.Value)) {
			return api.Media{}, false
		}
	}
	way, own := map[bool]string{false: "recv", true: "send"}[m.Sending], ""
	for _, c := range m.Codecs {
		own += " " + strconv.Itoa(c.Type)
	}
	for _, a := range p.Attrs {
		fine = fine && (a.Name != "rid" || strings.HasSuffix(a.Value, " "+way))
		fine = fine && (a.Name != "simulcast" || a.Value == way+" "+strings.Join(m.Rids, ";"))
	}
	return m, fine && types == own && unlike(m)
}

// meantLine tells what a part's first line says: the kind, the port and the types.
func meantLine(line string) (m api.Media, types string, fine bool) {
	if v := rules["data"].FindStringSubmatch(line); v != nil {
		return api.Media{Kind: api.Data, Port: int(v[1][0] - '0')}, "", true
	}
	v := rules["audio"].FindStringSubmatch(line)
	if v == nil {
		return m, "", false
	}
	return api.Media{Kind: map[string]int{"audio": api.Audio, "video": api.Video}[v[1]], Port: int(v[2][0] - '0')}, v[3], true
}

// meantAttr lays into m what an attribute says, whose value's pieces are v; false, if it is out of bounds.
func meantAttr(m *api.Media, name string, v []string) bool {
	fine := true
	switch name {
	case "mid":
		m.Mid = v[1]
	case "rtpmap":
		kind, fineKind := within(v[1], 0, 127)
		clock, fineClock := within(v[3], 1, 1000000)
		fine = fineKind && fineClock
		m.Codecs = append(m.Codecs, api.Codec{Type: kind, Name: v[2], Clock: clock, Channels: 1 + len(v[4])/2})
	case "fmtp":
		c := &m.Codecs[len(m.Codecs)-1]
		c.Format, fine = v[2], v[1] == strconv.Itoa(c.Type)
	case "rtcp-fb":
		c := &m.Codecs[len(m.Codecs)-1]
		c.Feedback = append(c.Feedback, v[2])
		fine = v[1] == strconv.Itoa(c.Type) && len(c.Feedback) <= 8
	case "extmap":
		x := api.Ext{URI: v[2]}
		x.ID, fine = within(v[1], 1, 14)
		m.Exts = append(m.Exts, x)
	case "rid":
		m.Rids, m.Sending = append(m.Rids, v[1]), v[2] == "send"
	case "simulcast": // says what the rids do
	case "ssrc":
		var n int
		n, fine = within(v[1], 0, 1<<32-1)
		m.Sources = append(m.Sources, uint32(n))
	case "crypto":
		k, _ := base64.StdEncoding.DecodeString(v[2])
		m.Crypto = append(m.Crypto, api.Crypto{Tag: int(v[1][0] - '0'), Key: [30]byte(k)})
	case "sctp-port":
		m.SctpPort, fine = within(v[1], 1, 65535)
	default:
		m.Direction = slices.Index([]string{"inactive", "sendonly", "recvonly", "sendrecv"}, name)
	}
	return fine
}

// unlike asks whether the members of m's lists are unlike, and not too many.
func unlike(m api.Media) bool {
	types, ids, rids, sources := map[int]int{}, map[int]int{}, map[string]int{}, map[uint32]int{}
	for _, c := range m.Codecs {
		types[c.Type]++
	}
	for _, x := range m.Exts {
		ids[x.ID]++
	}
	for _, r := range m.Rids {
		rids[r]++
	}
	for _, s := range m.Sources {
		sources[s]++
	}
	return len(types) == len(m.Codecs) && len(ids) == len(m.Exts) && len(rids) == len(m.Rids) && len(sources) == len(m.Sources) &&
		len(types) <= api.MostCodecs && len(ids) <= api.MostExts && len(rids) <= api.MostRids && len(sources) <= api.MostSources
}

// right asks whether p, all of whose attributes are known, is m's part, for Write and for Read.
func right(t *testing.T, what string, m api.Media, p sdp.Part) {
	t.Helper()
	if !attr.Good(m) {
		t.Errorf("%s: not good: %s", what, short(m))
	}
	if got, e := attr.Write(m); e != api.OK || !samePart(got, p) {
		t.Errorf("%s: %s: %s, %v, not %s", what, short(m), short(got), e, short(p))
	}
	reads(t, what, p, m)
}

// reads asks whether Read takes p for m.
func reads(t *testing.T, what string, p sdp.Part, m api.Media) {
	t.Helper()
	if got, e := attr.Read(p); e != api.OK || !same(got, m) {
		t.Errorf("%s: %s: %s, %v, not %s", what, short(p), short(got), e, short(m))
	}
}

// wrong asks whether Read refuses p.
func wrong(t *testing.T, what string, p sdp.Part) {
	t.Helper()
	if m, e := attr.Read(p); e != api.ErrForm || !same(m, api.Media{}) {
		t.Errorf("%s: %s: %s, %v", what, short(p), short(m), e)
	}
}

// judged asks whether Read tells of p what the tests' grammar does.
func judged(t *testing.T, what string, p sdp.Part) {
	t.Helper()
	m, ok := meant(p)
	if !ok {
		wrong(t, what, p)
		return
	}
	reads(t, what, p, m)
	if got, e := attr.Write(m); e != api.OK || !samePart(got, known(p)) {
		t.Errorf("%s: %s: %s, %v, not %s", what, short(m), short(got), e, short(known(p)))
	}
}

// asks asks whether m is good just if want is true; and what Write answers, and Read of its part.
func asks(t *testing.T, what string, m api.Media, want bool) {
	t.Helper()
	if want {
		right(t, what, m, laid(m))
		return
	}
	if attr.Good(m) {
		t.Errorf("%s: good: %s", what, short(m))
	}
	unwritten(t, what, m)
	judged(t, what, laid(m))
}

// unwritten asks whether Write refuses m.
func unwritten(t *testing.T, what string, m api.Media) {
	t.Helper()
	if p, e := attr.Write(m); e != api.ErrArg || !samePart(p, sdp.Part{}) {
		t.Errorf("%s: %s: %s, %v", what, short(m), short(p), e)
	}
}
