package text_test

import (
	"strings"
	"testing"

	"rostrum/text"
)

const (
	letters = "-_0123456789abcdefghijklmnopqrstuvwxyzABCDEFGHIJKLMNOPQRSTUVWXYZ"
	blankOn = " !\"#$%&'()*+,-./0123456789:;<=>?@ABCDEFGHIJKLMNOPQRSTUVWXYZ[\\]^_`abcdefghijklmnopqrstuvwxyz{|}~"
)

// each asks for every byte, at every place of a text of three, whether may tells that it is among known.
func each(t *testing.T, may func(string) bool, known string) {
	t.Helper()
	for c := range 256 {
		x := string([]byte{byte(c)})
		want := strings.Contains(known, x)
		for _, s := range []string{x, x + "ab", "a" + x + "b", "ab" + x} {
			if may(s) != want {
				t.Errorf("%q: %v", s, !want)
			}
		}
	}
}

// lengths asks whether may takes texts of 1 to most bytes.
func lengths(t *testing.T, may func(string) bool, most int) {
	t.Helper()
	for n := range 2*most + 300 {
		if want := n >= 1 && n <= most; may(strings.Repeat("a", n)) != want {
			t.Errorf("%d bytes: %v", n, !want)
		}
	}
}

func TestWord(t *testing.T) {
	each(t, text.Word, letters)
	lengths(t, text.Word, 32)
	for _, s := range []string{"é", "aé", "ａ", "a b", "a:b", "a\x00"} {
		if text.Word(s) {
			t.Errorf("%q: true", s)
		}
	}
}

func TestValue(t *testing.T) {
	each(t, text.Value, blankOn)
	lengths(t, text.Value, 200)
	for _, s := range []string{"é", "aé", "a\u00a0", "a\r\n", "a\tb"} {
		if text.Value(s) {
			t.Errorf("%q: true", s)
		}
	}
}
