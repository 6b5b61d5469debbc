package wire_test

import (
	"math"
	"math/rand/v2"
	"slices"
	"testing"

	"rostrum/wire"
)

type pair[K comparable, V any] struct {
	key   K
	value V
}

// pairs goes through a table.
func pairs[K comparable, V any](m *wire.Table[K, V]) []pair[K, V] {
	var all []pair[K, V]
	for k, v := range m.All() {
		all = append(all, pair[K, V]{k, v})
	}
	return all
}

// A table answers what a plain list of pairs would, whatever comes.
func TestTableByAList(t *testing.T) {
	for _, most := range []int{math.MinInt, -1, 0, 1, 2, 5} {
		draw := rand.New(rand.NewPCG(1, 2))
		m := wire.NewTable[int, int](most)
		var want []pair[int, int]
		for step := range 3000 {
			k := draw.IntN(8)
			at := slices.IndexFunc(want, func(p pair[int, int]) bool { return p.key == k })
			switch draw.IntN(3) {
			case 0:
				fit := at >= 0 || len(want) < max(most, 1)
				if at >= 0 {
					want[at].value = step
				} else if fit {
					want = append(want, pair[int, int]{k, step})
				}
				if m.Put(k, step) != fit {
					t.Fatalf("table of %d: Put(%d): not %v", most, k, fit)
				}
			case 1:
				if at >= 0 {
					want = slices.Delete(want, at, at+1)
				}
				if m.Drop(k) != (at >= 0) {
					t.Fatalf("table of %d: Drop(%d): not %v", most, k, at >= 0)
				}
			default:
				value := 0
				if at >= 0 {
					value = want[at].value
				}
				if v, ok := m.Get(k); v != value || ok != (at >= 0) {
					t.Fatalf("table of %d: Get(%d): %d, %v", most, k, v, ok)
				}
			}
			if m.Len() != len(want) || !slices.Equal(pairs(m), want) {
				t.Fatalf("table of %d: %v, want %v", most, pairs(m), want)
			}
		}
	}
}

func TestTableOfOne(t *testing.T) {
	m := wire.NewTable[string, int](1)
	if !m.Put("a", 1) || m.Put("b", 2) || !m.Put("a", 3) || m.Len() != 1 {
		t.Error("Put")
	}
	if v, ok := m.Get("a"); v != 3 || !ok {
		t.Error(v, ok)
	}
	if v, ok := m.Get("b"); v != 0 || ok || m.Drop("b") {
		t.Error(v, ok)
	}
	if !m.Drop("a") || m.Drop("a") || m.Len() != 0 || !m.Put("b", 2) {
		t.Error("Drop")
	}
}

func TestTableKeepsTheFirstOrder(t *testing.T) {
	m := wire.NewTable[string, int](math.MaxInt)
	for i, k := range []string{"d", "a", "c", "b"} {
		m.Put(k, i)
	}
	m.Put("d", 9)
	m.Drop("a")
	m.Put("a", 8)
	if want := []pair[string, int]{{"d", 9}, {"c", 2}, {"b", 3}, {"a", 8}}; !slices.Equal(pairs(m), want) {
		t.Error(pairs(m))
	}
}

func TestTableAllIsAsItWasWhenBegun(t *testing.T) {
	m := wire.NewTable[int, int](3)
	for k := range 3 {
		m.Put(k, k)
	}
	all := m.All()
	var seen []pair[int, int]
	for k, v := range all {
		seen = append(seen, pair[int, int]{k, v})
		m.Drop(k)
		m.Drop(1)
		m.Put(2, 20)
		m.Put(k+10, 0)
	}
	if want := []pair[int, int]{{0, 0}, {1, 1}, {2, 2}}; !slices.Equal(seen, want) {
		t.Error(seen)
	}
	seen = nil
	for k, v := range all {
		seen = append(seen, pair[int, int]{k, v})
	}
	if want := []pair[int, int]{{10, 0}, {11, 0}, {2, 20}}; !slices.Equal(seen, want) {
		t.Error("begun anew", seen)
	}
}

func TestTableLeftEarly(t *testing.T) {
	m := wire.NewTable[int, int](4)
	for k := range 4 {
		m.Put(k, -k)
	}
	for stop := range 4 {
		n := 0
		m.All()(func(k, v int) bool {
			if k != n || v != -k {
				t.Error(k, v)
			}
			n++
			return k < stop
		})
		if n != stop+1 || m.Len() != 4 {
			t.Error("left at", stop, "seen", n)
		}
	}
}

func TestTablesOfNothing(t *testing.T) {
	var none *wire.Table[string, int]
	if v, ok := none.Get("a"); v != 0 || ok || none.Put("a", 1) || none.Drop("a") || none.Len() != 0 {
		t.Error("nil")
	}
	if none.All() == nil || len(pairs(none)) != 0 {
		t.Error("All of nil")
	}
	if m := wire.NewTable[string, int](5); m.Len() != 0 || len(pairs(m)) != 0 {
		t.Error("empty")
	}
	var zero wire.Table[string, int]
	if zero.Drop("a") || !zero.Put("a", 1) || zero.Put("b", 2) || zero.Len() != 1 {
		t.Error("a table that NewTable has not made")
	}
}

func TestTablesAreApart(t *testing.T) {
	one, two := wire.NewTable[int, int](2), wire.NewTable[int, int](2)
	one.Put(1, 1)
	if _, ok := two.Get(1); ok || two.Len() != 0 {
		t.Error("tables share keys")
	}
}

// R1: a key that can't be compared is none that a table holds.
func TestTableKeysThatCannotBeCompared(t *testing.T) {
	for _, wrong := range []any{[]int{1}, map[int]int{}, func() {}, [1]any{[]int{}}} {
		m := wire.NewTable[any, int](2)
		if v, ok := m.Get(wrong); v != 0 || ok || m.Put(wrong, 1) || m.Drop(wrong) || m.Len() != 0 {
			t.Errorf("empty: %T", wrong)
		}
		m.Put("a", 1)
		if v, ok := m.Get(wrong); v != 0 || ok || m.Put(wrong, 1) || m.Drop(wrong) || m.Len() != 1 {
			t.Errorf("with a key: %T", wrong)
		}
		if want := []pair[any, int]{{"a", 1}}; !slices.Equal(pairs(m), want) {
			t.Errorf("%T: %v", wrong, pairs(m))
		}
	}
}

// A key that isn't equal to itself is never there, but takes room.
func TestTableKeysThatAreNotThemselves(t *testing.T) {
	m := wire.NewTable[float64, int](2)
	if !m.Put(math.NaN(), 1) || !m.Put(math.NaN(), 2) || m.Put(math.NaN(), 3) || m.Len() != 2 {
		t.Error("Put")
	}
	if _, ok := m.Get(math.NaN()); ok || m.Drop(math.NaN()) {
		t.Error("Get, Drop")
	}
	if all := pairs(m); len(all) != 2 || all[0].value != 1 || all[1].value != 2 {
		t.Error(all)
	}
}
