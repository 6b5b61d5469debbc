package wire

import "iter"

// entry is a key of a table with what lies under it, between its neighbours in the order of the keys.
type entry[K comparable, V any] struct {
	key           K
	value         V
	ahead, behind *entry[K, V]
}

// Table holds values under a bounded number of keys, which keep the order in which they were put first.
type Table[K comparable, V any] struct {
	most        int // below 1 it stands for 1
	entries     map[K]*entry[K, V]
	first, last *entry[K, V]
}

// NewTable makes a table of most keys. It takes no room ahead: most may be any number.
func NewTable[K comparable, V any](most int) *Table[K, V] {
	return &Table[K, V]{most: most}
}

// Put lays v under k, and tells whether there was room.
func (t *Table[K, V]) Put(k K, v V) bool {
	e, fit := t.find(k)
	if !fit {
		return false
	}
	if e != nil {
		e.value = v
		return true
	}
	if len(t.entries) >= max(t.most, 1) {
		return false
	}
	t.join(&entry[K, V]{key: k, value: v})
	return true
}

// Get tells what lies under k, and whether something does.
func (t *Table[K, V]) Get(k K) (V, bool) {
	e, _ := t.find(k)
	if e == nil {
		var none V
		return none, false
	}
	return e.value, true
}

// Drop takes k out, and tells whether it was there.
func (t *Table[K, V]) Drop(k K) bool {
	e, _ := t.find(k)
	if e == nil {
		return false
	}
	t.leave(e)
	return true
}

// Len tells how many keys there are.
func (t *Table[K, V]) Len() int {
	if t == nil {
		return 0
	}
	return len(t.entries)
}

// All goes through the keys and values, in the order in which the keys were put first.
func (t *Table[K, V]) All() iter.Seq2[K, V] {
	return func(yield func(K, V) bool) {
		for _, e := range t.list() {
			if !yield(e.key, e.value) {
				return
			}
		}
	}
}

// find tells k's entry, if there is one, and whether k fits the table at all:
// a K that is an interface lets keys through that can't be compared, at which the map panics.
func (t *Table[K, V]) find(k K) (e *entry[K, V], fit bool) {
	defer func() {
		if recover() != nil {
			e, fit = nil, false
		}
	}()
	if t == nil {
		return nil, false
	}
	return t.entries[k], true
}

// join lays e behind the last entry.
func (t *Table[K, V]) join(e *entry[K, V]) {
	if t.entries == nil {
		t.entries = map[K]*entry[K, V]{}
	}
	t.entries[e.key] = e
	e.ahead = t.last
	if t.last == nil {
		t.first = e
	} else {
		t.last.behind = e
	}
	t.last = e
}

// leave takes e out from between its neighbours.
func (t *Table[K, V]) leave(e *entry[K, V]) {
	delete(t.entries, e.key)
	if e.ahead == nil {
		t.first = e.behind
	} else {
		e.ahead.behind = e.behind
	}
	if e.behind == nil {
		t.last = e.ahead
	} else {
		e.behind.ahead = e.ahead
	}
}

// list holds copies, so that keys may be put and dropped while it is gone through.
func (t *Table[K, V]) list() []entry[K, V] {
	if t == nil {
		return nil
	}
	list := make([]entry[K, V], 0, len(t.entries))
	for e := t.first; e != nil; e = e.behind {
		list = append(list, *e)
	}
	return list
}
