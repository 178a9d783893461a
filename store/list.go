package store

import "slices"

// List keeps things in the order in which they came. The zero List is empty.
type List[T comparable] struct {
	things []T
}

// Len tells how many things there are.
func (l *List[T]) Len() int { return len(l.things) }

// Add puts a thing behind all others.
func (l *List[T]) Add(thing T) { l.things = append(l.things, thing) }

// First gives the thing that came first, and leaves it there; the zero value, if there is none.
func (l *List[T]) First() T {
	var first T
	if len(l.things) > 0 {
		first = l.things[0]
	}
	return first
}

// Remove takes a thing out, wherever it is, if it is there.
func (l *List[T]) Remove(thing T) {
	if i := slices.Index(l.things, thing); i >= 0 {
		l.things = slices.Delete(l.things, i, i+1)
	}
}
