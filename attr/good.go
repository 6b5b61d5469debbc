package attr

import (
	"slices"
	"strings"

	"rostrum/api"
	"rostrum/text"
)

// The bounds of what stands in a media section; those that are the server's own are api's.
const (
	openPort     = 9
	mostMid      = 16
	mostType     = 127
	mostClock    = 1000000
	mostFormat   = 100
	mostFeedback = 8
	mostExtID    = 14
	mostURI      = 100
	mostRid      = 8
	mostCrypto   = 1
	mostTag      = 9
	mostPort     = 65535
)

// Good tells whether m is good.
func Good(m api.Media) bool {
	if m.Port != 0 && m.Port != openPort || !wordOf(m.Mid, mostMid) || !within(m.Direction, 0, api.Send+api.Recv) {
		return false
	}
	switch m.Kind {
	case api.Audio, api.Video:
		return goodStreams(m)
	case api.Data:
		return goodChannel(m)
	}
	return false
}

// goodStreams asks for what is Audio's and Video's alone.
func goodStreams(m api.Media) bool {
	return len(m.Codecs) > 0 && goodList(m.Codecs, api.MostCodecs, codecType, goodCodec) &&
		goodList(m.Exts, api.MostExts, extID, goodExt) &&
		goodList(m.Rids, api.MostRids, itself[string], goodRid) &&
		(len(m.Rids) > 0 || !m.Sending) &&
		goodList(m.Sources, api.MostSources, itself[uint32], anySource) &&
		goodList(m.Crypto, mostCrypto, itself[api.Crypto], goodCrypto) &&
		m.SctpPort == 0
}

// goodChannel asks for what is Data's alone.
func goodChannel(m api.Media) bool {
	return len(m.Codecs)+len(m.Exts)+len(m.Rids)+len(m.Sources)+len(m.Crypto) == 0 &&
		!m.Sending && within(m.SctpPort, 1, mostPort)
}

// goodList tells whether the list has at most most members, all good, and of unlike keys.
func goodList[T any, K comparable](list []T, most int, key func(T) K, good func(T) bool) bool {
	if len(list) > most {
		return false
	}
	for i, x := range list {
		alike := func(y T) bool { return key(y) == key(x) }
		if !good(x) || slices.ContainsFunc(list[:i], alike) {
			return false
		}
	}
	return true
}

func codecType(c api.Codec) int { return c.Type }

func extID(x api.Ext) int { return x.ID }

func itself[T any](x T) T { return x }

func goodCodec(c api.Codec) bool {
	return within(c.Type, 0, mostType) && text.Word(c.Name) && within(c.Clock, 1, mostClock) && within(c.Channels, 1, 2) &&
		(c.Format == "" || goodFormat(c.Format)) &&
		len(c.Feedback) <= mostFeedback && !slices.ContainsFunc(c.Feedback, badFormat)
}

// goodFormat tells whether s may stand as what a format, or a feedback, says.
func goodFormat(s string) bool {
	return text.Value(s) && len(s) <= mostFormat && !strings.HasPrefix(s, blank) && !strings.HasSuffix(s, blank)
}

func badFormat(s string) bool { return !goodFormat(s) }

func goodExt(x api.Ext) bool {
	return within(x.ID, 1, mostExtID) && text.Value(x.URI) && len(x.URI) <= mostURI && !strings.Contains(x.URI, blank)
}

func goodRid(s string) bool { return wordOf(s, mostRid) }

func anySource(uint32) bool { return true }

func goodCrypto(c api.Crypto) bool { return within(c.Tag, 1, mostTag) }

// wordOf tells whether s is a word of at most most bytes.
func wordOf(s string, most int) bool {
	return len(s) <= most && text.Word(s)
}

func within(n, least, most int) bool {
	return n >= least && n <= most
}
