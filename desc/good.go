package desc

import (
	"slices"

	"rostrum/api"
	"rostrum/attr"
	"rostrum/text"
)

// A word has no more bytes than a name and a password may have, so they have no most of their own.
const (
	leastName     = 4
	leastPassword = 22
)

// Good tells whether d is good.
func Good(d api.Desc) bool {
	return wordFrom(d.Name, leastName) && wordFrom(d.Password, leastPassword) &&
		len(d.Media) <= api.MostParts && goodMedia(d.Media) && goodBundle(d.Bundle, d.Media)
}

// wordFrom tells whether s is a word of at least least bytes.
func wordFrom(s string, least int) bool {
	return len(s) >= least && text.Word(s)
}

func goodMedia(list []api.Media) bool {
	for i, m := range list {
		if !attr.Good(m) || has(list[:i], m.Mid) {
			return false
		}
	}
	return true
}

func goodBundle(mids []string, list []api.Media) bool {
	for i, mid := range mids {
		if !has(list, mid) || slices.Contains(mids[:i], mid) {
			return false
		}
	}
	return true
}

// has tells whether a Media of the list has the Mid.
func has(list []api.Media, mid string) bool {
	return slices.ContainsFunc(list, func(m api.Media) bool { return m.Mid == mid })
}
