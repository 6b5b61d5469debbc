package judge

import (
	"slices"

	"rostrum/api"
)

// What is asked here of a taken Media and of the offered one at its place leans on both being good.

func open(offered, _ api.Media) bool { return offered.Port != 0 }

func goodCodecs(offered, own api.Media) bool {
	// No two offered ones are of one Type: so what stands ahead of one that was found can't be meant by a later one.
	left := offered.Codecs
	for _, c := range own.Codecs {
		i := slices.IndexFunc(left, func(o api.Codec) bool { return alike(o, c) })
		if i < 0 || !within(c.Feedback, left[i].Feedback) {
			return false
		}
		left = left[i+1:]
	}
	return true
}

// alike tells whether two codecs are one, whatever their Feedback is.
func alike(a, b api.Codec) bool {
	return a.Type == b.Type && a.Name == b.Name && a.Clock == b.Clock && a.Channels == b.Channels && a.Format == b.Format
}

func goodExts(offered, own api.Media) bool { return within(own.Exts, offered.Exts) }

func goodDirection(offered, own api.Media) bool {
	return (!has(own, api.Send) || has(offered, api.Recv)) && (!has(own, api.Recv) || has(offered, api.Send))
}

// has tells whether a Media's direction has the way, Send or Recv.
func has(m api.Media, way int) bool { return m.Direction&way != 0 }

func goodRids(offered, own api.Media) bool {
	return len(own.Rids) == 0 || within(own.Rids, offered.Rids) && own.Sending != offered.Sending
}

func goodTransport(offered, own api.Media) bool {
	if own.Kind == api.Data {
		return own.SctpPort != 0
	}
	// None has more than one.
	return slices.EqualFunc(offered.Crypto, own.Crypto, func(a, b api.Crypto) bool { return a.Tag == b.Tag })
}

// within tells whether each of few is one of all.
func within[T comparable](few, all []T) bool {
	return !slices.ContainsFunc(few, func(x T) bool { return !slices.Contains(all, x) })
}
