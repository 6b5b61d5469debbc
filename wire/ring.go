package wire

import (
	"iter"
	"slices"
)

// Ring keeps the last things that were put.
type Ring[T any] struct {
	most   int // below 1 it stands for 1
	things []T
	oldest int // its place in things; 0 until the ring is full
}

// NewRing makes a ring of most things. It takes no room ahead: most may be any number.
func NewRing[T any](most int) *Ring[T] {
	return &Ring[T]{most: most}
}

// Put lets x join, and tells what has left for it, if something has.
func (r *Ring[T]) Put(x T) (T, bool) {
	var none T
	if r == nil {
		return none, false
	}
	if len(r.things) < max(r.most, 1) {
		r.things = append(r.things, x)
		return none, false
	}
	old := r.things[r.oldest]
	r.things[r.oldest] = x
	r.oldest = (r.oldest + 1) % len(r.things)
	return old, true
}

// Len tells how many things there are.
func (r *Ring[T]) Len() int {
	if r == nil {
		return 0
	}
	return len(r.things)
}

// All goes through the things, the oldest first, with their places.
func (r *Ring[T]) All() iter.Seq2[int, T] {
	return func(yield func(int, T) bool) {
		for i, x := range r.list() {
			if !yield(i, x) {
				return
			}
		}
	}
}

// list is a copy, so that things may be put while it is gone through.
func (r *Ring[T]) list() []T {
	if r == nil {
		return nil
	}
	return slices.Concat(r.things[r.oldest:], r.things[:r.oldest])
}
