// Package clone makes copies that share no memory with what they are made of, the texts' own neither.
package clone

import (
	"strings"

	"rostrum/api"
)

// Desc is a copy of d.
func Desc(d api.Desc) api.Desc {
	d.Bundle = Texts(d.Bundle)
	d.Name = strings.Clone(d.Name)
	d.Password = strings.Clone(d.Password)
	d.Media = list(d.Media, media)
	return d
}

// Codecs is a copy of the codecs.
func Codecs(codecs []api.Codec) []api.Codec {
	return list(codecs, codec)
}

// Texts is a copy of the texts.
func Texts(texts []string) []string {
	return list(texts, strings.Clone)
}

func media(m api.Media) api.Media {
	m.Mid = strings.Clone(m.Mid)
	m.Codecs = Codecs(m.Codecs)
	m.Exts = list(m.Exts, ext)
	m.Rids = Texts(m.Rids)
	m.Sources = list(m.Sources, plain)
	m.Crypto = list(m.Crypto, plain)
	return m
}

func codec(c api.Codec) api.Codec {
	c.Name = strings.Clone(c.Name)
	c.Format = strings.Clone(c.Format)
	c.Feedback = Texts(c.Feedback)
	return c
}

func ext(x api.Ext) api.Ext {
	x.URI = strings.Clone(x.URI)
	return x
}

// plain copies what leads to no other memory.
func plain[T any](x T) T { return x }

// list is a list of the members' copies; one of no members keeps no room of the other's, as slices.Clone may.
func list[T any](members []T, copied func(T) T) []T {
	var all []T
	for _, x := range members {
		all = append(all, copied(x))
	}
	return all
}
