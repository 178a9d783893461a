package hoard

// station is where a block is; one that goes passes them in this order.
type station int

const (
	inUse station = iota
	idle
	free
)

// use lets one more sequence have a block and all ahead of it.
func (h *Hoard) use(last *block) {
	for b := last; b != nil; b = b.ahead {
		h.idle.Remove(b)
		b.users++
	}
}

// leave lets the sequence with this last block have its blocks no longer: the later ones go first, for that is the order of those that become idle.
func (h *Hoard) leave(last *block) {
	for b := last; b != nil; {
		ahead := b.ahead // asked now: what goes down to the pool is blank
		h.down(b, inUse)
		b = ahead
	}
}

// down lets a block go from its station: it falls from each to the next one, till one holds it.
func (h *Hoard) down(b *block, from station) {
	switch from {
	case inUse:
		b.users--
		if b.users > 0 {
			return
		}
		fallthrough
	case idle:
		if from == inUse && h.isWhole(b) {
			h.idle.Add(b)
			return
		}
		h.idle.Remove(b) // a tail is neither in the list nor in the tree, and falls on
		h.whole.Remove(b.tokens())
		fallthrough
	case free:
		h.pool.Give(b)
	}
}
