// Package store: what keeps things, and orders them, whatever they are: a pool, a list, and a tree by paths.
package store

// Pool has a fixed number of things, hands them out, and takes them back.
type Pool[T any] struct {
	free []*T
}

// NewPool makes a pool of n things, all free.
func NewPool[T any](n int) *Pool[T] {
	p := &Pool[T]{}
	for range n {
		p.free = append(p.free, new(T))
	}
	return p
}

// Free tells how many things can be taken.
func (p *Pool[T]) Free() int { return len(p.free) }

// Take hands out a free thing, or nil if there is none.
func (p *Pool[T]) Take() *T {
	last := len(p.free) - 1
	if last < 0 {
		return nil
	}
	thing := p.free[last]
	p.free[last] = nil // so that the pool does not hold what it gave away
	p.free = p.free[:last]
	return thing
}

// Give takes back a thing that was handed out, and makes it as new: what lay in it is held no longer.
func (p *Pool[T]) Give(thing *T) {
	var blank T
	*thing = blank
	p.free = append(p.free, thing)
}
