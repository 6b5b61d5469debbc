package attr

import (
	"iter"
	"slices"
	"strconv"
	"strings"

	"rostrum/api"
	"rostrum/sdp"
)

// Read tells the Media whose part is p without the attributes whose names aren't known.
// A Media has one part alone: so what p seems to tell is written again, and p is right just if that is the same. The readers below need not look for faults.
func Read(p sdp.Part) (api.Media, api.Errno) {
	var m api.Media
	var attrs []sdp.Attr
	readLine(&m, p.Line)
	for a, read := range known(p.Attrs) {
		if len(attrs) == api.MostAttrs {
			return api.Media{}, api.ErrForm
		}
		attrs = append(attrs, a)
		read(&m, strings.Clone(a.Value)) // an answer shares no memory with what was handed in
	}
	own, e := Write(m)
	if e != api.OK || own.Line != p.Line || own.Conn != p.Conn || !slices.Equal(own.Attrs, attrs) {
		return api.Media{}, api.ErrForm
	}
	return m, api.OK
}

// reader lays what an attribute's value tells into m.
type reader func(m *api.Media, value string)

// known goes through the attributes whose names are known, each with its reader.
func known(attrs []sdp.Attr) iter.Seq2[sdp.Attr, reader] {
	return func(yield func(sdp.Attr, reader) bool) {
		for _, a := range attrs {
			read := readerOf(a.Name)
			if read != nil && !yield(a, read) {
				return
			}
		}
	}
}

// readerOf tells how the value of an attribute is read; nil, if its name isn't known.
func readerOf(name string) reader {
	switch name {
	case nameMid:
		return readMid
	case nameCodec:
		return readCodec
	case nameFormat:
		return readFormat
	case nameFeedback:
		return readFeedback
	case nameExt:
		return readExt
	case nameRid:
		return readRid
	case nameSimulcast:
		return readNothing
	case nameSource:
		return readSource
	case nameCrypto:
		return readCrypto
	case nameSctpPort:
		return readSctpPort
	}
	for way, known := range directions {
		if name == known {
			return func(m *api.Media, _ string) { m.Direction = way }
		}
	}
	return nil
}

func readLine(m *api.Media, line string) {
	kind, rest := cut(line)
	port, _ := cut(rest)
	m.Port = number(port)
	for k, name := range kinds {
		if kind == name {
			m.Kind = k
		}
	}
}

func readMid(m *api.Media, value string) { m.Mid = value }

func readCodec(m *api.Media, value string) {
	kind, rest := cut(value)
	name, rest, _ := strings.Cut(rest, slash)
	clock, more, _ := strings.Cut(rest, slash)
	channels := 1
	if more == stereo {
		channels = 2
	}
	m.Codecs = append(m.Codecs, api.Codec{Type: number(kind), Name: name, Clock: number(clock), Channels: channels})
}

func readFormat(m *api.Media, value string) {
	if c := lastCodec(m); c != nil {
		_, c.Format = cut(value)
	}
}

func readFeedback(m *api.Media, value string) {
	if c := lastCodec(m); c != nil {
		_, feedback := cut(value)
		c.Feedback = append(c.Feedback, feedback)
	}
}

// lastCodec tells the codec behind which an attribute stands, nil if behind none.
func lastCodec(m *api.Media) *api.Codec {
	if len(m.Codecs) == 0 {
		return nil
	}
	return &m.Codecs[len(m.Codecs)-1]
}

func readExt(m *api.Media, value string) {
	id, uri := cut(value)
	m.Exts = append(m.Exts, api.Ext{ID: number(id), URI: uri})
}

func readRid(m *api.Media, value string) {
	rid, way := cut(value)
	m.Rids, m.Sending = append(m.Rids, rid), way == sending
}

// readNothing reads what says no more than others do.
func readNothing(*api.Media, string) {}

func readSource(m *api.Media, value string) {
	source, _ := strconv.ParseUint(value, 10, 32)
	m.Sources = append(m.Sources, uint32(source))
}

func readCrypto(m *api.Media, value string) {
	tag, rest := cut(value)
	_, rest = cut(rest)
	m.Crypto = append(m.Crypto, api.Crypto{Tag: number(tag), Key: readKey(strings.TrimPrefix(rest, inline))})
}

func readSctpPort(m *api.Media, value string) { m.SctpPort = number(value) }

// cut parts s at its first blank.
func cut(s string) (before, behind string) {
	before, behind, _ = strings.Cut(s, blank)
	return before, behind
}

// number tells the number whose text s is; of what is no number's text, any number.
func number(s string) int {
	n, _ := strconv.Atoi(s)
	return n
}
