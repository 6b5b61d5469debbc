package wire_test

import (
	"math"
	"slices"
	"testing"

	"rostrum/wire"
)

// things goes through a ring, and tells its things, if their places rise from 0.
func things[T any](t *testing.T, r *wire.Ring[T]) []T {
	t.Helper()
	var all []T
	for i, x := range r.All() {
		if i != len(all) {
			t.Fatalf("place %d at %d", i, len(all))
		}
		all = append(all, x)
	}
	return all
}

// A ring holds what a list would that loses its first thing.
func TestRingKeepsTheLast(t *testing.T) {
	for _, most := range []int{math.MinInt, -1, 0, 1, 2, 3, 7, 64} {
		r := wire.NewRing[int](most)
		var want []int
		for x := 1; x <= 150; x++ {
			want = append(want, x)
			left, some := 0, len(want) > max(most, 1)
			if some {
				left, want = want[0], want[1:]
			}
			if old, out := r.Put(x); old != left || out != some {
				t.Fatalf("ring of %d: Put(%d): %d, %v", most, x, old, out)
			}
			if r.Len() != len(want) || !slices.Equal(things(t, r), want) {
				t.Fatalf("ring of %d: %v, want %v", most, things(t, r), want)
			}
		}
	}
}

func TestRingOfAnySize(t *testing.T) {
	r := wire.NewRing[string](math.MaxInt)
	for _, x := range []string{"a", "b", "a"} {
		if old, out := r.Put(x); old != "" || out {
			t.Error(old, out)
		}
	}
	if !slices.Equal(things(t, r), []string{"a", "b", "a"}) {
		t.Error(things(t, r))
	}
}

func TestRingAllIsAsItWasWhenBegun(t *testing.T) {
	r := wire.NewRing[int](3)
	for x := range 5 {
		r.Put(x)
	}
	all := r.All()
	var seen []int
	for _, x := range all {
		seen = append(seen, x)
		r.Put(x + 10)
	}
	if !slices.Equal(seen, []int{2, 3, 4}) || !slices.Equal(things(t, r), []int{12, 13, 14}) {
		t.Error(seen, things(t, r))
	}
	seen = nil
	for _, x := range all {
		seen = append(seen, x)
	}
	if !slices.Equal(seen, []int{12, 13, 14}) {
		t.Error("begun anew", seen)
	}
}

func TestRingLeftEarly(t *testing.T) {
	r := wire.NewRing[int](4)
	for x := range 9 {
		r.Put(x)
	}
	for stop := range 4 {
		n := 0
		r.All()(func(i, x int) bool {
			if i != n || x != 5+i {
				t.Error(i, x)
			}
			n++
			return i < stop
		})
		if n != stop+1 || r.Len() != 4 {
			t.Error("left at", stop, "seen", n)
		}
	}
}

func TestRingsOfNothing(t *testing.T) {
	var none *wire.Ring[string]
	if old, out := none.Put("a"); old != "" || out || none.Len() != 0 || none.All() == nil || len(things(t, none)) != 0 {
		t.Error("nil")
	}
	if r := wire.NewRing[int](5); r.Len() != 0 || len(things(t, r)) != 0 {
		t.Error("empty")
	}
	var zero wire.Ring[int]
	zero.Put(1)
	if old, out := zero.Put(2); old != 1 || !out || !slices.Equal(things(t, &zero), []int{2}) {
		t.Error("a ring that NewRing has not made")
	}
}

func TestRingsAreApart(t *testing.T) {
	one, two := wire.NewRing[int](2), wire.NewRing[int](2)
	one.Put(1)
	two.Put(2)
	if !slices.Equal(things(t, one), []int{1}) || !slices.Equal(things(t, two), []int{2}) {
		t.Error(things(t, one), things(t, two))
	}
}
