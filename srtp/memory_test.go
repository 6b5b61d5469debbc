package srtp_test

import (
	"bytes"
	"sync"
	"testing"
	"unsafe"

	"rostrum/api"
	"rostrum/srtp"
)

// roomy is b in memory of its own, with spare room behind it that isn't noughts.
func roomy(b []byte) []byte {
	all := bytes.Repeat([]byte{0xa5}, len(b)+60)
	copy(all, b)
	return all[:len(b):len(all)]
}

// untouched tells whether b, from roomy of was, and its spare room are as they were.
func untouched(b, was []byte) bool {
	return bytes.Equal(b[:cap(b)], roomy(was)[:cap(b)])
}

// spoil writes over all of b, its spare room too, as one who appends to it would.
func spoil(b []byte) {
	b = b[:cap(b)]
	for i := range b {
		b[i] = ^b[i]
	}
}

// asked is a call and what is handed in.
type asked struct {
	which int
	b     []byte
}

// story is calls of all sorts that answer all errors there are.
func story() []asked {
	var list []asked
	m := newModel(someKey())
	add := func(which int, b []byte) []byte {
		list = append(list, asked{which, b})
		x, _ := m.call(which, b)
		return x
	}
	for i := range uint32(40) {
		for _, which := range []int{protect, protectControl} {
			b := packet(i%20, 65535+uint16(i), int(i))
			if which == protectControl {
				b = report(i%20, int(i))
			}
			x := add(which, b)
			if x == nil {
				continue
			}
			bad := bytes.Clone(x)
			bad[len(bad)-1] ^= 1
			add(which+1, bad)
			add(which+1, x)
			add(which+1, x)
			add(which+1, x[:min(len(x), 21)])
			add(which, append(x, make([]byte, 1500)...))
		}
	}
	add(protect, packet(1, 40000, 5)) // would be below 0
	return list
}

// tell is what a context answers to a story.
func tell(c *srtp.Context, list []asked) (answers [][]byte, errs []api.Errno) {
	for _, x := range list {
		b, e := call(c, x.which, x.b)
		answers, errs = append(answers, b), append(errs, e)
	}
	return answers, errs
}

// sameTold tells whether two stories were told the same.
func sameTold(a, b [][]byte, c, d []api.Errno) bool {
	for i := range a {
		if !bytes.Equal(a[i], b[i]) || c[i] != d[i] {
			return false
		}
	}
	return len(a) == len(b)
}

func TestStoryTellsAllErrors(t *testing.T) {
	p := newPair(someKey())
	var told [12]int
	for _, x := range story() {
		_, e := p.do(t, x.which, x.b)
		told[e]++
	}
	for _, e := range []api.Errno{api.OK, api.ErrForm, api.ErrLarge, api.ErrAuth, api.ErrOld, api.ErrFull} {
		if told[e] == 0 {
			t.Errorf("no %v", e)
		}
	}
}

// A nil context answers ErrArg, whatever it is handed.
func TestNilContext(t *testing.T) {
	var c *srtp.Context
	list := append(story(), asked{0, nil}, asked{1, nil}, asked{2, nil}, asked{3, nil}, asked{0, make([]byte, 9000)}, asked{3, make([]byte, 9000)})
	for _, x := range list {
		if b, e := call(c, x.which, x.b); e != api.ErrArg || len(b) != 0 || cap(b) != 0 {
			t.Fatalf("%s: %x, %v", names()[x.which], b, e)
		}
	}
}

// A context that New didn't make is in no promise, but it panics no more than others.
func TestContextOfNobody(t *testing.T) {
	tell(new(srtp.Context), story())
}

// Beside an error there's nothing, no room either.
func TestNothingBesideAnError(t *testing.T) {
	answers, errs := tell(srtp.New(someKey()), story())
	for i, b := range answers {
		if (errs[i] != api.OK) != (cap(b) == 0) {
			t.Errorf("%v: room for %d", errs[i], cap(b))
		}
	}
	c := srtp.New(someKey())
	c.LayControl(5, maxControl)
	if b, e := c.ProtectControl(report(5, 9)); e != api.ErrOld || cap(b) != 0 {
		t.Errorf("%v: room for %d", e, cap(b))
	}
}

func TestLeavesWhatIsHandedIn(t *testing.T) {
	c := srtp.New(someKey())
	for _, x := range story() {
		b := roomy(x.b)
		got, e := call(c, x.which, b)
		if !untouched(b, x.b) {
			t.Fatalf("%s, %v: written to", names()[x.which], e)
		}
		spoil(got)
		if !untouched(b, x.b) {
			t.Fatalf("%s, %v: shared", names()[x.which], e)
		}
	}
}

// What was handed in and what was told is spoilt behind each call: what was told before and is told later stays.
func TestKeepsNothing(t *testing.T) {
	want, errs := tell(srtp.New(someKey()), story())
	c, d := srtp.New(someKey()), srtp.New(someKey())
	var answers [][]byte
	for i, x := range story() {
		b := roomy(x.b)
		first, e := call(c, x.which, b)
		spoil(b)
		second, also := call(d, x.which, x.b)
		saved := bytes.Clone(second)
		spoil(second)
		if !bytes.Equal(first, want[i]) || !bytes.Equal(saved, want[i]) || e != errs[i] || also != errs[i] {
			t.Fatalf("%d: %x, %x, not %x", i, first, saved, want[i])
		}
		answers = append(answers, first)
	}
	for i, b := range answers {
		if !bytes.Equal(b, want[i]) {
			t.Fatalf("%d became %x, not %x", i, b, want[i])
		}
	}
}

// room is where bytes lie, their spare room too.
type room struct{ begin, end uintptr }

func roomOf(b []byte) room {
	begin := uintptr(unsafe.Pointer(unsafe.SliceData(b)))
	return room{begin, begin + uintptr(cap(b))}
}

// All that is told lies apart, and apart from what is handed in.
func TestWhereTheBytesLie(t *testing.T) {
	list := story()
	for i := range list {
		list[i].b = roomy(list[i].b)
	}
	answers, _ := tell(srtp.New(someKey()), list)
	var rooms []room
	for i, b := range answers {
		rooms = append(rooms, roomOf(list[i].b), roomOf(b))
	}
	for i, a := range rooms {
		for _, b := range rooms[:i] {
			if a.begin < b.end && b.begin < a.end && a.begin < a.end && b.begin < b.end {
				t.Fatalf("%v and %v", a, b)
			}
		}
	}
}

// Contexts of all keys, asked in turn, answer as each would alone.
func TestContextsApart(t *testing.T) {
	list := story()
	var contexts []*srtp.Context
	var answers [][][]byte
	var errs [][]api.Errno
	for range 2 {
		for _, key := range keys() {
			a, e := tell(srtp.New(key), list)
			contexts, answers, errs = append(contexts, srtp.New(key)), append(answers, a), append(errs, e)
		}
	}
	for i, x := range list {
		for j, c := range contexts {
			if b, e := call(c, x.which, x.b); e != errs[j][i] || !bytes.Equal(b, answers[j][i]) {
				t.Fatalf("%d of context %d: %x, %v, not %x, %v", i, j, b, e, answers[j][i], errs[j][i])
			}
		}
	}
}

// Contexts at once are contexts each for itself.
func TestContextsAtOnce(t *testing.T) {
	list := story()
	want, errs := tell(srtp.New(someKey()), list)
	var group sync.WaitGroup
	for range 8 {
		group.Go(func() {
			if got, e := tell(srtp.New(someKey()), list); !sameTold(got, want, e, errs) {
				t.Error("another story")
			}
		})
	}
	group.Wait()
}
