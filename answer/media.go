package answer

import (
	"slices"
	"strings"

	"rostrum/api"
	"rostrum/clone"
)

// openPort is the Port of what isn't refused.
const openPort = 9

// media tells the answer's Media of m, a good offer's, which is bundled there or not.
func media(m api.Media, bundled bool, c api.Config, key [30]byte) api.Media {
	codecs := common(m.Codecs, c.Codecs)
	if m.Port == 0 || !bundled || !able(m, codecs, c) {
		return refusal(m)
	}
	return api.Media{
		Kind:      m.Kind,
		Port:      openPort,
		Mid:       strings.Clone(m.Mid),
		Direction: turned(m.Direction),
		Codecs:    codecs,
		Exts:      known(m.Exts, c.Exts),
		Rids:      received(m),
		Crypto:    keyed(m.Crypto, key),
		SctpPort:  m.SctpPort,
	}
}

// able tells whether the server can take what m is of; codecs are the common ones.
func able(m api.Media, codecs []api.Codec, c api.Config) bool {
	if m.Kind == api.Data {
		return c.Data
	}
	return len(codecs) > 0 && len(m.Crypto) > 0
}

func refusal(m api.Media) api.Media {
	return api.Media{Kind: m.Kind, Mid: strings.Clone(m.Mid), Codecs: clone.Codecs(m.Codecs), SctpPort: m.SctpPort}
}

// turned tells the direction as the other side sees it.
func turned(direction int) int {
	switch direction {
	case api.Send:
		return api.Recv
	case api.Recv:
		return api.Send
	}
	return direction
}

// known tells the extensions that the server knows by their URIs.
func known(exts []api.Ext, uris []string) []api.Ext {
	var list []api.Ext
	for _, x := range exts {
		if slices.Contains(uris, x.URI) {
			list = append(list, api.Ext{ID: x.ID, URI: strings.Clone(x.URI)})
		}
	}
	return list
}

// received tells the Rids that the server receives: it sends none of its own.
func received(m api.Media) []string {
	if !m.Sending {
		return nil
	}
	return clone.Texts(m.Rids)
}

// keyed tells what is offered with the server's key in the place of the peer's.
func keyed(offered []api.Crypto, key [30]byte) []api.Crypto {
	var list []api.Crypto
	for _, c := range offered {
		list = append(list, api.Crypto{Tag: c.Tag, Key: key})
	}
	return list
}
