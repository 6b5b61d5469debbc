package stun_test

import (
	"bytes"
	"crypto/hmac"
	"crypto/md5"
	oracle "crypto/sha1"
	"encoding/binary"
	"encoding/hex"
	"hash/crc32"
	"testing"

	"rostrum/api"
	"rostrum/stun"
)

// mac is the attribute of the HMAC behind b, whose length is written over.
func mac(b, key []byte) []byte {
	binary.BigEndian.PutUint16(b[2:], uint16(len(b)+24-20))
	h := hmac.New(oracle.New, key)
	h.Write(b)
	return append(b, append([]byte{0, 8, 0, 20}, h.Sum(nil)...)...)
}

// crc is the attribute of the CRC behind b, whose length is written over.
func crc(b []byte) []byte {
	binary.BigEndian.PutUint16(b[2:], uint16(len(b)+8-20))
	b = append(b, 0x80, 0x28, 0, 4)
	return binary.BigEndian.AppendUint32(b, crc32.ChecksumIEEE(b[:len(b)-4])^0x5354554e)
}

// signed is a message's bytes, signed by key, by the library's HMAC and CRC.
func signed(key []byte, class, method int, list ...stun.Attr) []byte {
	return crc(mac(laid(class, method, list...), key))
}

// withBoth is the message of what signed has laid.
func withBoth(b []byte, class, method int, list ...stun.Attr) stun.Message {
	m := message(class, method, list...)
	m.Attrs = append(m.Attrs[:len(list):len(list)],
		stun.Attr{Type: 8, Value: bytes.Clone(b[len(b)-28 : len(b)-8])},
		stun.Attr{Type: 0x8028, Value: bytes.Clone(b[len(b)-4:])})
	return m
}

// signs asks Sign and Check whether b is m's bytes, signed by key.
func signs(t *testing.T, key []byte, class, method int, list ...stun.Attr) {
	t.Helper()
	b := signed(key, class, method, list...)
	if got, e := stun.Sign(message(class, method, list...), key); e != api.OK || !bytes.Equal(got, b) {
		t.Errorf("Sign by %q: %v %x for %x", key, e, got, b)
	}
	if got, e := stun.Check(b, key); e != api.OK || !same(got, withBoth(b, class, method, list...)) {
		t.Errorf("Check of %x by %q: %v %v", b, key, e, got)
	}
}

// unsigned asks whether b is a message's bytes, but not signed by key.
func unsigned(t *testing.T, what string, b, key []byte) {
	t.Helper()
	if m, e := stun.Check(b, key); e != api.ErrAuth || !zero(m) {
		t.Errorf("%s: %x by %q: %v %v", what, b, key, e, m)
	}
	if _, e := stun.Parse(b); e != api.OK {
		t.Errorf("%s: the test's own bytes: %v", what, e)
	}
}

// unsignable asks whether Sign refuses m.
func unsignable(t *testing.T, what string, m stun.Message) {
	t.Helper()
	if b, e := stun.Sign(m, []byte("key")); e != api.ErrArg || len(b) != 0 {
		t.Errorf("%s: %v %x", what, e, b)
	}
}

// The HMAC that RFC 5769's 2.4 tells, under the key that its names and password make.
func TestSignOfRFC5769(t *testing.T) {
	b, err := hex.DecodeString(longTerm)
	if err != nil {
		t.Fatal(err)
	}
	binary.BigEndian.PutUint16(b[2:], uint16(len(b)-20))
	m, e := stun.Parse(b)
	if e != api.OK {
		t.Fatal(e)
	}
	key := md5.Sum([]byte("マトリックス:example.org:TheMatrIX"))
	s, e := stun.Sign(m, key[:])
	if e != api.OK || len(s) != len(b)+32 {
		t.Fatalf("%v %x", e, s)
	}
	if got := hex.EncodeToString(s[len(b) : len(b)+24]); got != "00080014f67024656dd64a3e02b8e0712e85c9a28ca89666" {
		t.Error(got)
	}
	if _, e := stun.Check(s, key[:]); e != api.OK {
		t.Error(e)
	}
}

func TestSignedMessages(t *testing.T) {
	for class := range 4 {
		for _, method := range []int{0, 1, 2, 0x80, 0x5a5, 4095} {
			signs(t, []byte("key"), class, method)
			signs(t, []byte("key"), class, method, stun.Attr{Type: 6, Value: []byte("a:b")}, stun.Attr{Type: 0x25})
		}
	}
	for n := range 513 {
		signs(t, value(n%90), 0, 1, stun.Attr{Type: uint16(n + 9), Value: value(n)})
	}
}

func TestSignedByEveryLengthOfKey(t *testing.T) {
	for n := range 140 {
		signs(t, value(n), 2, 1, many(2, 3)...)
	}
	signs(t, nil, 0, 1)
	signs(t, make([]byte, 5000), 0, 1)
}

func TestTheNumberOfAttributesWithBoth(t *testing.T) {
	for n := range 15 {
		signs(t, []byte("key"), 0, 1, many(n, 6)...)
	}
	for _, n := range []int{15, 16, 17, 40} {
		unsignable(t, "attributes", message(0, 1, many(n, 6)...))
	}
	// These are messages by themselves.
	both(t, message(0, 1, many(16, 6)...), laid(0, 1, many(16, 6)...))
}

// 1448 bytes of attributes and the two that signing adds.
func TestTheNumberOfBytesWithBoth(t *testing.T) {
	for rest := 400; rest <= 444; rest++ {
		list := append(many(2, 512), stun.Attr{Type: 6, Value: value(rest)})
		if n := len(laid(0, 1, list...)); n+32 <= 1500 {
			signs(t, []byte("key"), 0, 1, list...)
		} else {
			unsignable(t, "bytes", message(0, 1, list...))
			both(t, message(0, 1, list...), laid(0, 1, list...))
		}
	}
	if n := len(laid(0, 1, append(many(2, 512), stun.Attr{Value: value(412)})...)); n != 1468 {
		t.Fatal("the test's own bytes:", n)
	}
}

func TestSignOfTypesThatSigningAdds(t *testing.T) {
	for _, kind := range []uint16{8, 0x8028} {
		for n := range 4 {
			for at := range n + 1 {
				list := many(n, 4)
				list = append(list[:at:at], append([]stun.Attr{{Type: kind, Value: value(20)}}, list[at:]...)...)
				unsignable(t, "a Type", message(0, 1, list...))
				both(t, message(0, 1, list...), laid(0, 1, list...))
			}
		}
		unsignable(t, "a Type without a Value", message(0, 1, stun.Attr{Type: kind}))
	}
	for _, kind := range []uint16{0, 7, 9, 0x800, 0x28, 0x8027, 0x8029, 0x2880} {
		signs(t, []byte("key"), 0, 1, stun.Attr{Type: kind, Value: value(20)})
	}
	m, _ := stun.Check(signed([]byte("key"), 0, 1), []byte("key"))
	unsignable(t, "what is signed already", m)
}

func TestCheckUnderAnotherKey(t *testing.T) {
	key := []byte("VOkJxbRl1RmTxUk/WvJxBt")
	b := signed(key, 0, 1, stun.Attr{Type: 6, Value: []byte("a:b")})
	others := [][]byte{nil, {}, []byte("key"), key[:len(key)-1], key[1:], append(bytes.Clone(key), 1), append(bytes.Clone(key), ' ')}
	for i := range key {
		for bit := range 8 {
			k := bytes.Clone(key)
			k[i] ^= 1 << bit
			others = append(others, k)
		}
	}
	for _, k := range others {
		unsigned(t, "another key", b, k)
	}
	if _, e := stun.Check(b, key); e != api.OK {
		t.Error(e)
	}
}

// One bit of a signed message is another: no message any more, or not signed.
func TestCheckOfChangedBytes(t *testing.T) {
	key := []byte("key")
	for _, list := range [][]stun.Attr{nil, many(1, 3), many(2, 8)} {
		good := signed(key, 0, 1, list...)
		for i := range good {
			for bit := range 8 {
				b := bytes.Clone(good)
				b[i] ^= 1 << bit
				_, want := stun.Parse(b)
				if want == api.OK {
					want = api.ErrAuth
				}
				if m, e := stun.Check(b, key); e != want || !zero(m) {
					t.Errorf("byte %d, bit %d: %v %v", i, bit, e, m)
				}
			}
		}
	}
}

// One bit is another, and what was signed by no key, the CRC, is made to fit again.
func TestCheckOfChangedBytesWithTheirCRC(t *testing.T) {
	key := []byte("key")
	good := signed(key, 0, 1, many(2, 8)...)
	for i := range len(good) - 8 {
		for bit := range 8 {
			b := bytes.Clone(good[:len(good)-8])
			b[i] ^= 1 << bit
			b = crc(b)
			_, want := stun.Parse(b)
			if want == api.OK {
				want = api.ErrAuth
			}
			// The length's bits are written over by the test.
			if i == 2 || i == 3 {
				want = api.OK
			}
			if _, e := stun.Check(b, key); e != want {
				t.Errorf("byte %d, bit %d: %v, not %v", i, bit, e, want)
			}
		}
	}
}

func TestCheckOfMessagesThatAreNotSigned(t *testing.T) {
	key := []byte("key")
	list := many(2, 4)
	unsigned(t, "neither", laid(0, 1), key)
	unsigned(t, "neither", laid(0, 1, list...), key)
	unsigned(t, "neither, 16 attributes", laid(0, 1, many(16, 4)...), key)
	unsigned(t, "the HMAC alone", mac(laid(0, 1, list...), key), key)
	unsigned(t, "the HMAC alone, of no attributes", mac(laid(0, 1), key), key)
	unsigned(t, "the CRC alone", crc(laid(0, 1, list...)), key)
	unsigned(t, "the CRC alone, of no attributes", crc(laid(0, 1)), key)
	unsigned(t, "the two about", mac(crc(laid(0, 1, list...)), key), key)
	unsigned(t, "the HMAC twice", crc(mac(mac(laid(0, 1, list...), key), key)), key)
	unsigned(t, "the CRC twice", crc(crc(mac(laid(0, 1, list...), key))), key)
	unsigned(t, "signed twice", crc(mac(crc(mac(laid(0, 1), key)), key)), key)
	unsigned(t, "a CRC ahead", crc(mac(crc(laid(0, 1, list...)), key)), key)
	unsigned(t, "an HMAC's Type ahead", signed(key, 0, 1, stun.Attr{Type: 8, Value: value(20)}), key)
	unsigned(t, "a CRC's Type ahead", signed(key, 0, 1, stun.Attr{Type: 0x8028, Value: value(4)}), key)
	b := signed(key, 0, 1, list...)
	behind := append(bytes.Clone(b), attrs(many(1, 4)...)...)
	binary.BigEndian.PutUint16(behind[2:], uint16(len(behind)-20))
	unsigned(t, "an attribute behind", behind, key)
}

// Attributes of the right Types, but with other lengths of Values, and a CRC that is not masked.
func TestCheckOfOtherValues(t *testing.T) {
	key := []byte("key")
	plain := laid(0, 1, many(1, 4)...)
	full := mac(bytes.Clone(plain), key)
	for _, n := range []int{0, 4, 16, 19, 24} {
		v := append(bytes.Clone(full[len(plain)+4:]), make([]byte, 4)...)[:n]
		b := append(bytes.Clone(plain), attrs(stun.Attr{Type: 8, Value: v})...)
		unsigned(t, "an HMAC of another length", crc(b), key)
	}
	good := signed(key, 0, 1, many(1, 4)...)
	for _, n := range []int{0, 1, 3, 5, 8} {
		v := append(bytes.Clone(good[len(good)-4:]), make([]byte, 4)...)[:n]
		b := append(bytes.Clone(full), attrs(stun.Attr{Type: 0x8028, Value: v})...)
		binary.BigEndian.PutUint16(b[2:], uint16(len(b)-20))
		unsigned(t, "a CRC of another length", b, key)
	}
	bare := bytes.Clone(good)
	last := bare[len(bare)-4:]
	binary.BigEndian.PutUint32(last, binary.BigEndian.Uint32(last)^0x5354554e)
	unsigned(t, "a CRC that is not masked", bare, key)
}

// The HMAC counts its own attribute and not the CRC's: other lengths make other HMACs.
func TestCheckOfOtherLengthsInTheHMAC(t *testing.T) {
	key := []byte("key")
	for _, more := range []int{0, 20, 32, 56} {
		b := laid(0, 1, many(1, 4)...)
		binary.BigEndian.PutUint16(b[2:], uint16(len(b)-20+more))
		h := hmac.New(oracle.New, key)
		h.Write(b)
		b = append(b, attrs(stun.Attr{Type: 8, Value: h.Sum(nil)})...)
		unsigned(t, "another length", crc(b), key)
	}
}

func TestSignMemory(t *testing.T) {
	was := message(0, 1, many(3, 5)...)
	m, key := roomyMessage(was), roomy(value(80))
	first, _ := stun.Sign(m, key)
	spoil(first)
	if !asBefore(m, was) || !untouched(key, value(80)) {
		t.Error("written to:", m, key)
	}
	if again, e := stun.Sign(m, key); e != api.OK || !bytes.Equal(again, signed(value(80), 0, 1, many(3, 5)...)) {
		t.Errorf("%v %x", e, again)
	}
	bad := roomyMessage(message(0, 1, many(15, 5)...))
	if _, e := stun.Sign(bad, key); e != api.ErrArg || !asBefore(bad, message(0, 1, many(15, 5)...)) || !untouched(key, value(80)) {
		t.Error(e, bad)
	}
}

func TestCheckMemory(t *testing.T) {
	was := signed(value(22), 0, 1, many(3, 5)...)
	want := withBoth(was, 0, 1, many(3, 5)...)
	b, key := roomy(was), roomy(value(22))
	m, e := stun.Check(b, key)
	if e != api.OK || !untouched(b, was) || !untouched(key, value(22)) {
		t.Error("written to:", e, b, key)
	}
	spoil(b)
	if !same(m, want) {
		t.Error("kept:", m)
	}
	for i := range m.Attrs {
		spoil(m.Attrs[i].Value)
		for j := i + 1; j < len(m.Attrs); j++ {
			if !bytes.Equal(m.Attrs[j].Value, want.Attrs[j].Value) {
				t.Error("shared:", i, j)
			}
		}
	}
	wrong := roomy(was)
	if _, e := stun.Check(wrong, []byte("key")); e != api.ErrAuth || !untouched(wrong, was) {
		t.Error(e, wrong)
	}
}
