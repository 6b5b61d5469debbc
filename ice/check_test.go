package ice_test

import (
	"bytes"
	"encoding/binary"
	"fmt"
	"strings"
	"testing"

	"rostrum/api"
	"rostrum/ice"
	"rostrum/stun"
)

// Step 1: what is no message, and messages that are no binding requests.
func TestBytesThatAreNoMessage(t *testing.T) {
	a := agent(t, alice)
	b := good()
	for n := range b {
		refuses(t, fmt.Sprint("the first ", n, " bytes"), a, b[:n], alice, api.ErrForm, nil)
	}
	refuses(t, "no bytes", a, nil, alice, api.ErrForm, nil)
	refuses(t, "a byte behind", a, append(bytes.Clone(b), 0), alice, api.ErrForm, nil)
	refuses(t, "a word behind", a, append(bytes.Clone(b), 0, 0, 0, 0), alice, api.ErrForm, nil)
	refuses(t, "twice", a, append(bytes.Clone(b), b...), alice, api.ErrForm, nil)
	refuses(t, "17 attributes", a, request(many(15)...), alice, api.ErrForm, nil)
	refuses(t, "a Value of 513 bytes", a, good(stun.Attr{Type: 40000, Value: make([]byte, 513)}), alice, api.ErrForm, nil)
	refuses(t, "more than MostBytes", a, good(long(512), long(512), long(400)), alice, api.ErrForm, nil)
	accepts(t, a, request(many(14)...), alice, 0)
	accepts(t, a, good(long(512), long(512), long(1500-20-12-8-32-2*516-4)), alice, 0)
}

// many is n attributes, the first two of them those that a check must have.
func many(n int) []stun.Attr {
	list := []stun.Attr{user, priority}
	for len(list) < n {
		list = append(list, stun.Attr{Type: 40000})
	}
	return list
}

// long is an attribute that may be passed over, with a Value of n bytes.
func long(n int) stun.Attr {
	return stun.Attr{Type: 40000, Value: make([]byte, n)}
}

func TestMessagesThatAreNoBindingRequest(t *testing.T) {
	a := agent(t, alice)
	for _, class := range []uint16{0x0000, 0x0010, 0x0100, 0x0110} {
		for _, method := range []uint16{0, 1, 2, 3, 9, 0x21, 0x201, 0x3eef} {
			kind := class | method
			if kind == 0x0001 {
				continue
			}
			what := fmt.Sprintf("first bytes %04x", kind)
			refuses(t, what, a, sealed(laid(kind, user, priority, use), password), alice, api.ErrArg, nil)
			refuses(t, what+", no attributes", a, laid(kind), alice, api.ErrArg, nil)
			refuses(t, what+", another key", a, sealed(laid(kind, user, unknown), "x"), alice, api.ErrArg, nil)
			refuses(t, what+", bad in all", a, sealed(laid(kind, role, unknown), password), erin, api.ErrArg, nil)
		}
	}
}

// Step 2: neither name nor HMAC, or one of them alone.
func TestRequestsWithoutNameOrSignature(t *testing.T) {
	a := agent(t, alice)
	for what, b := range map[string][]byte{
		"nothing":                        laid(1),
		"the name alone":                 laid(1, user),
		"a wrong name alone":             laid(1, named("zz:peer")),
		"all but the HMAC":               laid(1, user, priority, use),
		"no name":                        request(),
		"all but the name":               request(priority, use),
		"no name, another key":           sealed(laid(1, priority), "x"),
		"no name, an unknown Type":       request(priority, unknown),
		"no name, a role":                request(priority, role),
		"no HMAC, an unknown Type":       laid(1, user, priority, unknown),
		"no HMAC, a role, no priority":   laid(1, user, role),
		"a CRC's Type but no HMAC":       laid(1, user, priority, stun.Attr{Type: 32808, Value: make([]byte, 4)}),
		"Types that only end alike":      laid(1, stun.Attr{Type: 0x0106, Value: user.Value}, stun.Attr{Type: 0x0108, Value: make([]byte, 20)}),
		"an HMAC behind, but no name":    laid(1, stun.Attr{Type: 8, Value: make([]byte, 20)}),
		"an HMAC without Value, no name": laid(1, stun.Attr{Type: 8}),
	} {
		refuses(t, what, a, b, alice, api.ErrAuth, refusal(400))
		refuses(t, what+", from another", a, b, erin, api.ErrAuth, refusal(400))
	}
}

// Step 3: names that only begin alike, or end otherwise.
func TestNames(t *testing.T) {
	whole := strings.Repeat("n", 511)
	for _, c := range []struct {
		name      string
		good, bad []string
	}{
		{"ab", []string{"ab:", "ab:x", "ab::", "ab::x", "ab:ab:x", "ab:\x00", "ab:" + strings.Repeat("x", 509)},
			[]string{"", ":", "a", "a:", "a:b", "ab", "abx", "abc:x", "aab:x", "xab:x", " ab:x", "ab :x", "ab;x", "ab\x00:x", "AB:x", "aB:x", "ba:x", "x:ab", "x:ab:", ":ab:x", "\xef\xbb\xbfab:x", "ab\xef\xbc\x9ax"}},
		{"", []string{":", ":x", "::"}, []string{"", "x", "x:", " :"}},
		{"a:b", []string{"a:b:", "a:b:x"}, []string{"a:b", "a:bx", "a:x", "a:", "a"}},
		{"a:", []string{"a::", "a::x"}, []string{"a:", "a:x", "a"}},
		{"\xff\xfe\x00", []string{"\xff\xfe\x00:", "\xff\xfe\x00:x"}, []string{"\xef\xbf\xbd\xef\xbf\xbd\x00:x", "\xff\xfe:x", "\xff\xff\x00:x"}},
		{whole, []string{whole + ":"}, []string{whole, whole[1:] + ":", whole + "n"}},
		{whole + "n", nil, []string{whole + "n", whole + ":"}},
	} {
		for _, s := range c.good {
			a := ice.New(c.name, password)
			accepts(t, a, request(named(s), priority), alice, 0)
			holds(t, fmt.Sprintf("%q", s), a, ice.Pair{Addr: alice})
		}
		for _, s := range c.bad {
			a := ice.New(c.name, password)
			refuses(t, fmt.Sprintf("%q for %q", s, c.name), a, request(named(s), priority, use), alice, api.ErrAuth, refusal(401))
		}
	}
}

// Of several names the first counts, wherever it stands.
func TestSeveralNames(t *testing.T) {
	a := agent(t)
	other := named("zz:peer")
	refuses(t, "the right one second", a, request(other, user, priority), alice, api.ErrAuth, refusal(401))
	refuses(t, "an empty one first", a, request(named(""), user, priority), alice, api.ErrAuth, refusal(401))
	accepts(t, a, request(user, other, priority), alice, 0)
	accepts(t, a, request(priority, use, user), bob, 0)
}

func TestRequestsUnderAnotherPassword(t *testing.T) {
	a := agent(t, alice)
	key := []byte(password)
	others := []string{"", " ", "x", password[1:], password[:len(password)-1], password + " ", password + "\x01", strings.ToUpper(password), password + password}
	for i := range key {
		for bit := range 8 {
			k := bytes.Clone(key)
			k[i] ^= 1 << bit
			others = append(others, string(k))
		}
	}
	for _, k := range others {
		refuses(t, fmt.Sprintf("key %q", k), a, sealed(laid(1, user, priority, use), k), alice, api.ErrAuth, refusal(401))
	}
	accepts(t, a, good(), alice, 0)
}

// Each agent has its own password: an empty one, one of other bytes, one longer than a block of its HMAC.
func TestPasswords(t *testing.T) {
	keys := []string{"", "x", "\x00", "\xff\xfe", strings.Repeat("k", 63), strings.Repeat("k", 64), strings.Repeat("k", 65), strings.Repeat("k", 200)}
	for _, own := range keys {
		for _, k := range keys {
			got, e := ice.New(name, own).Handle(sealed(laid(1, user, priority), k), alice, 0)
			want, reply := api.OK, success(alice, own)
			// HMAC fills a key up with noughts, so that these are one.
			if strings.TrimRight(own, "\x00") != strings.TrimRight(k, "\x00") {
				want, reply = api.ErrAuth, refusal(401)
			}
			if e != want || !bytes.Equal(got, reply) {
				t.Errorf("%q for %q: %v %x", k, own, e, got)
			}
		}
	}
}

// What layer 4's Check refuses, though an attribute of Type 8 is there.
func TestRequestsThatAreNotSignedRight(t *testing.T) {
	a := agent(t, alice)
	b := good()
	bare := bytes.Clone(b[:len(b)-8])
	binary.BigEndian.PutUint16(bare[2:], uint16(len(bare)-20))
	behind := append(bytes.Clone(b), 0x9c, 0x40, 0, 0)
	binary.BigEndian.PutUint16(behind[2:], uint16(len(behind)-20))
	for what, b := range map[string][]byte{
		"the HMAC without the CRC":     bare,
		"an attribute behind":          behind,
		"signed twice":                 sealed(b, password),
		"an HMAC of noughts":           laid(1, user, priority, stun.Attr{Type: 8, Value: make([]byte, 20)}),
		"an HMAC without a Value":      laid(1, user, priority, stun.Attr{Type: 8}),
		"an HMAC's Type ahead":         request(stun.Attr{Type: 8, Value: make([]byte, 20)}, user, priority),
		"the HMAC of another request":  append(bytes.Clone(b[:len(b)-32]), good(use)[len(good(use))-32:]...),
		"not signed, an unknown Type":  laid(1, user, unknown, stun.Attr{Type: 8}),
		"another key, a role":          sealed(laid(1, user, role), "x"),
		"another key, no priority":     sealed(laid(1, user), "x"),
		"another key, an unknown Type": sealed(laid(1, user, unknown), "x"),
		"another name, a role":         request(named("zz:"), role),
		"another name, no priority":    request(named("zz:")),
		"another name, another key":    sealed(laid(1, named("zz:"), priority), "x"),
	} {
		refuses(t, what, a, b, alice, api.ErrAuth, refusal(401))
		refuses(t, what+", from another", a, b, erin, api.ErrAuth, refusal(401))
	}
}

// One byte of a request is another one: it is refused by what its bytes are then.
func TestRequestsOfWhichOneByteIsAnother(t *testing.T) {
	a := agent(t, alice)
	whole := good(use)
	for i := range whole {
		for _, by := range []byte{1, 2, 4, 8, 16, 32, 64, 128, 255} {
			b := bytes.Clone(whole)
			b[i] ^= by
			want, reply := changed(b, i)
			refuses(t, fmt.Sprintf("byte %d xor %d", i, by), a, b, alice, want, reply)
		}
	}
}

// changed is the answer to b, which is a good request but for its byte i.
func changed(b []byte, i int) (api.Errno, []byte) {
	m, e := stun.Parse(b)
	if e != api.OK {
		return api.ErrForm, nil
	}
	if i < 2 {
		return api.ErrArg, nil
	}
	code := 401
	if _, ok := stun.Find(m, 6); !ok {
		code = 400
	}
	if _, ok := stun.Find(m, 8); !ok {
		code = 400
	}
	reply := refusal(code)
	copy(reply[8:20], b[8:20])
	return api.ErrAuth, reply
}

// Step 4: Types below 32768 must be known, those from there on may be passed over.
func TestTypes(t *testing.T) {
	kinds := []uint16{0x8027, 0x802a, 0x8022, 0x8029, 0xc057, 0xffff}
	for i := range 300 {
		kinds = append(kinds, uint16(i), uint16(32768-150+i))
	}
	for bit := range 16 {
		kinds = append(kinds, 1<<bit, 1<<bit|36, 1<<bit|6)
	}
	for _, kind := range kinds {
		if kind == 8 || kind == 32808 || kind == 32809 {
			continue
		}
		a := agent(t, bob)
		x := stun.Attr{Type: kind, Value: []byte("abcd")}
		for what, b := range map[string][]byte{
			"behind":          request(user, priority, x),
			"between":         request(user, stun.Attr{Type: 40000}, x, priority),
			"without a Value": request(user, priority, stun.Attr{Type: kind}),
			"twice":           request(user, priority, x, x),
		} {
			what = fmt.Sprint(kind, " ", what)
			if kind < 32768 && kind != 6 && kind != 36 && kind != 37 {
				refuses(t, what, a, b, alice, api.ErrArg, signedRefusal(420))
			} else {
				accepts(t, a, b, alice, 0)
			}
		}
	}
}

// Which is asked first where several things are wrong, or where there is no room besides.
func TestFaultsInOrder(t *testing.T) {
	for what, a := range map[string]*ice.Agent{"with room": agent(t, bob), "full": agent(t, bob, carol, dave, erin)} {
		for _, c := range []struct {
			what string
			b    []byte
			code int
		}{
			{"an unknown Type", good(unknown), 420},
			{"an unknown Type that is to nominate", good(use, unknown), 420},
			{"an unknown Type ahead of all", request(unknown, user, priority), 420},
			{"an unknown Type and a role", good(role, unknown), 420},
			{"an unknown Type, no priority", request(user, unknown), 420},
			{"an unknown Type, a role, no priority", request(role, user, unknown), 420},
			{"a role", good(role), 487},
			{"a role that is to nominate", good(role, use), 487},
			{"a role of no Value", good(stun.Attr{Type: 32809}), 487},
			{"a role ahead of all", request(role, user, priority), 487},
			{"a role twice", good(role, role), 487},
			{"a role, no priority", request(user, role), 487},
			{"a role, a short priority", request(user, stun.Attr{Type: 36}, role), 487},
			{"no priority", request(user), 400},
			{"no priority, but to nominate", request(user, use), 400},
			{"a short priority that is to nominate", request(user, stun.Attr{Type: 36, Value: []byte("abc")}, use), 400},
		} {
			refuses(t, what+": "+c.what, a, c.b, alice, api.ErrArg, signedRefusal(c.code))
		}
	}
}

func TestLengthsOfPriority(t *testing.T) {
	for n := range 513 {
		a := agent(t, bob)
		p := stun.Attr{Type: 36, Value: bytes.Repeat([]byte{7}, n)}
		if n == 4 {
			accepts(t, a, request(user, p), alice, 0)
			accepts(t, a, request(p, priority, user), alice, 0)
			continue
		}
		refuses(t, fmt.Sprint(n, " bytes"), a, request(user, p), alice, api.ErrArg, signedRefusal(400))
		refuses(t, fmt.Sprint(n, " bytes first"), a, request(user, p, priority), alice, api.ErrArg, signedRefusal(400))
		accepts(t, a, request(user, priority, p), alice, 0)
	}
	for _, v := range []string{"\x00\x00\x00\x00", "\xff\xff\xff\xff", "abcd"} {
		accepts(t, agent(t), request(user, stun.Attr{Type: 36, Value: []byte(v)}), alice, 0)
	}
}

// Step 5: MostPairs addresses, and one more.
func TestMostPairs(t *testing.T) {
	all := []api.Addr{alice, bob, carol, dave}
	a := agent(t)
	for i, x := range all {
		accepts(t, a, good(), x, int64(i))
	}
	accepts(t, a, good(use), bob, 4)
	want := []ice.Pair{{Addr: alice}, {Addr: bob, Last: 4, Nominated: true}, {Addr: carol, Last: 2}, {Addr: dave, Last: 3}}
	holds(t, "four", a, want...)
	for _, x := range []api.Addr{erin, {IP: alice.IP}, {Port: alice.Port}, {IP: 1}, {Port: 1}, {IP: carol.IP, Port: bob.Port}} {
		refuses(t, "one more", a, good(), x, api.ErrFull, nil)
		refuses(t, "one more that is to be nominated", a, good(use), x, api.ErrFull, nil)
		refuses(t, "one more under another key", a, sealed(laid(1, user, priority), "x"), x, api.ErrAuth, refusal(401))
		refuses(t, "one more without a name", a, request(priority), x, api.ErrAuth, refusal(400))
		refuses(t, "one more that is no message", a, []byte("x"), x, api.ErrForm, nil)
	}
	for i, x := range all {
		accepts(t, a, good(), x, 10)
		want[i].Last = 10
		holds(t, "the four again", a, want...)
	}
	accepts(t, a, good(use), dave, 11)
	want[1].Nominated, want[3] = false, ice.Pair{Addr: dave, Last: 11, Nominated: true}
	holds(t, "another nominated", a, want...)
}

// Step 6: the reply tells where the check came from, and has the check's ID.
func TestReplies(t *testing.T) {
	for _, x := range []api.Addr{alice, bob, carol, dave, erin, {IP: 0x2112a442, Port: 0x2112}, {IP: 0x01020304, Port: 0x0506}} {
		accepts(t, agent(t), good(), x, 0)
		accepts(t, agent(t), good(use, stun.Attr{Type: 0xc057, Value: []byte("abc")}), x, 0)
	}
	for _, n := range []byte{0, 1, 0xff} {
		own := [12]byte(bytes.Repeat([]byte{n}, 12))
		for code, list := range map[int][]stun.Attr{0: {user, priority}, 401: {named("x:"), priority}, 400: {user}, 420: {user, unknown}, 487: {user, role}} {
			b, _ := stun.Sign(stun.Message{Method: 1, ID: own, Attrs: list}, []byte(password))
			got, _ := agent(t).Handle(b, alice, 0)
			m, e := stun.Parse(got)
			if e != api.OK || m.ID != own || m.Method != 1 || (m.Class == 2) != (code == 0) {
				t.Errorf("%d: %v %v", code, e, m)
			}
		}
	}
}

func TestHandleMemory(t *testing.T) {
	for _, b := range [][]byte{good(use), good(unknown), request(), sealed(laid(1, user), "x"), laid(0x0101), []byte("abc")} {
		a := agent(t)
		in := roomy(b)
		first, e := a.Handle(in, alice, 0)
		was, pairs := bytes.Clone(first), a.Pairs()
		if !untouched(in, b) {
			t.Errorf("written to: %x", b)
		}
		spoil(in)
		spoil(first)
		holds(t, "spoilt", a, pairs...)
		if again, f := a.Handle(roomy(b), alice, 0); f != e || !bytes.Equal(again, was) {
			t.Errorf("%x: %v %x, then %v %x", b, e, was, f, again)
		}
	}
}
