package sha1_test

import (
	"bytes"
	"crypto/hmac"
	oracle "crypto/sha1"
	"encoding/hex"
	"testing"

	"rostrum/sha1"
)

// mac is the library's HMAC.
func mac(key, message []byte) [20]byte {
	h := hmac.New(oracle.New, key)
	h.Write(message)
	return [20]byte(h.Sum(nil))
}

func TestMACExamples(t *testing.T) {
	for _, c := range []struct{ key, message, want string }{
		{"key", "The quick brown fox jumps over the lazy dog", "de7c9b85b8b78aa6bc8a7a36f70a90701c9db4d9"},
		{"", "", "fbdb1d1b18aa6c08324b7d64b71fb76370690e1d"},
		{"Jefe", "what do ya want for nothing?", "effcdf6ae5eb2fa2d27416d5f184df9c259a7c79"},
		{string(bytes.Repeat([]byte{0x0b}, 20)), "Hi There", "b617318655057264e28bc0b6fb378c8ef146be00"},
		{string(bytes.Repeat([]byte{0xaa}, 80)), "Test Using Larger Than Block-Size Key - Hash Key First", "aa4ae5e15272d00e95705637ce8a3b55ed402112"},
		{string(bytes.Repeat([]byte{0xaa}, 80)), "Test Using Larger Than Block-Size Key and Larger Than One Block-Size Data", "e8e99d0f45237d786d6bbaa7965c7808bbff1a91"},
	} {
		if got := sha1.MAC([]byte(c.key), []byte(c.message)); hex.EncodeToString(got[:]) != c.want {
			t.Errorf("%.20q, %.20q: %x", c.key, c.message, got)
		}
	}
}

func TestMACAtEveryKey(t *testing.T) {
	for n := range 200 {
		for _, m := range edges {
			if got := sha1.MAC(run(n), run(m)); got != mac(run(n), run(m)) {
				t.Errorf("a key of %d, a message of %d bytes: %x", n, m, got)
			}
		}
	}
}

// A key is what it is with noughts behind it, up to 64 bytes and no further.
func TestMACFillsTheKey(t *testing.T) {
	short, full := run(63), append(run(63), 0)
	if sha1.MAC(short, nil) != sha1.MAC(full, nil) {
		t.Error("63 and 64 bytes")
	}
	if sha1.MAC(full, nil) == sha1.MAC(append(full, 0), nil) {
		t.Error("64 and 65 bytes")
	}
	sum := oracle.Sum(run(65))
	if sha1.MAC(run(65), []byte("x")) != sha1.MAC(sum[:], []byte("x")) {
		t.Error("65 bytes and their sum")
	}
}

func TestMACOfNothing(t *testing.T) {
	want := mac(nil, nil)
	if sha1.MAC(nil, nil) != want || sha1.MAC([]byte{}, []byte{}) != want {
		t.Error("no key, no message")
	}
	if sha1.MAC(nil, run(5)) != mac(nil, run(5)) || sha1.MAC(run(5), nil) != mac(run(5), nil) {
		t.Error("no key, or no message")
	}
}

func TestMACLeavesItsBytes(t *testing.T) {
	for _, n := range []int{0, 1, 20, 63, 64, 65, 200} {
		for _, m := range edges {
			key, message := roomy(run(n)), roomy(run(m))
			first := sha1.MAC(key, message)
			if !untouched(key, run(n)) || !untouched(message, run(m)) {
				t.Error(n, m, "bytes: written to")
			}
			if again := sha1.MAC(key, message); first != mac(run(n), run(m)) || again != first {
				t.Errorf("%d, %d bytes: %x, then %x", n, m, first, again)
			}
		}
	}
}

// Key and message may lie in the same memory.
func TestMACOfOverlap(t *testing.T) {
	b := run(300)
	for _, n := range []int{0, 20, 64, 65, 150} {
		if got := sha1.MAC(b[:n], b[n/2:]); got != mac(run(300)[:n], run(300)[n/2:]) {
			t.Errorf("a key of %d bytes: %x", n, got)
		}
	}
	if !bytes.Equal(b, run(300)) {
		t.Error("written to")
	}
}
