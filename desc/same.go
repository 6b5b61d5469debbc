package desc

import (
	"slices"

	"rostrum/api"
)

// Same tells whether all fields of a and b are alike.
func Same(a, b api.Desc) bool {
	return a.ID == b.ID && a.Version == b.Version && slices.Equal(a.Bundle, b.Bundle) &&
		a.Name == b.Name && a.Password == b.Password && slices.EqualFunc(a.Media, b.Media, sameMedia)
}

func sameMedia(a, b api.Media) bool {
	return a.Kind == b.Kind && a.Port == b.Port && a.Mid == b.Mid && a.Direction == b.Direction &&
		slices.EqualFunc(a.Codecs, b.Codecs, sameCodec) && slices.Equal(a.Exts, b.Exts) &&
		slices.Equal(a.Rids, b.Rids) && a.Sending == b.Sending &&
		slices.Equal(a.Sources, b.Sources) && slices.Equal(a.Crypto, b.Crypto) && a.SctpPort == b.SctpPort
}

func sameCodec(a, b api.Codec) bool {
	return a.Type == b.Type && a.Name == b.Name && a.Clock == b.Clock && a.Channels == b.Channels &&
		a.Format == b.Format && slices.Equal(a.Feedback, b.Feedback)
}
