package answer

import (
	"slices"
	"strings"

	"rostrum/api"
)

// common tells the offered codecs that are among the server's own, with the Feedback that these have.
func common(offered, own []api.Codec) []api.Codec {
	var list []api.Codec
	for _, c := range offered {
		i := slices.IndexFunc(own, func(o api.Codec) bool { return alike(o, c) })
		if i >= 0 {
			list = append(list, with(c, both(c.Feedback, own[i].Feedback)))
		}
	}
	return list
}

// alike tells whether two codecs write media in one way: each session has Types and Formats of its own.
func alike(a, b api.Codec) bool {
	return a.Name == b.Name && a.Clock == b.Clock && a.Channels == b.Channels
}

// with is a copy of c that has the Feedback.
func with(c api.Codec, feedback []string) api.Codec {
	return api.Codec{
		Type:     c.Type,
		Name:     strings.Clone(c.Name),
		Clock:    c.Clock,
		Channels: c.Channels,
		Format:   strings.Clone(c.Format),
		Feedback: feedback,
	}
}

// both tells the offered Feedback, in its order, that is among the server's own.
func both(offered, own []string) []string {
	var list []string
	for _, f := range offered {
		if slices.Contains(own, f) {
			list = append(list, strings.Clone(f))
		}
	}
	return list
}
