// Package text tells what the short texts are that several layers speak of.
package text

import "rostrum/api"

// mostWord is how many bytes a word has at most.
const mostWord = 32

// Word tells whether s is a word: 1 to 32 letters, digits, - and _.
func Word(s string) bool {
	return between(len(s), mostWord) && all(s, inWord)
}

// Value tells whether s may stand as a value in a line of a description: 1 to MostLine bytes from a blank to ~.
func Value(s string) bool {
	return between(len(s), api.MostLine) && all(s, inValue)
}

func between(n, most int) bool {
	return n >= 1 && n <= most
}

// all goes by bytes: a rune of several bytes is none that may stand, and neither are its bytes.
func all(s string, may func(byte) bool) bool {
	for i := range len(s) {
		if !may(s[i]) {
			return false
		}
	}
	return true
}

func inWord(c byte) bool {
	switch {
	case c >= 'a' && c <= 'z', c >= 'A' && c <= 'Z', c >= '0' && c <= '9':
		return true
	}
	return c == '-' || c == '_'
}

func inValue(c byte) bool {
	return c >= ' ' && c <= '~'
}
