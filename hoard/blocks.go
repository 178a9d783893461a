package hoard

import (
	"hoard/api"
	"hoard/decoder"
)

// slot is a token and what the decoder keeps of it.
type slot struct {
	token int
	cell  decoder.Cell
}

// block has up to Slots slots; with all of them it is whole.
type block struct {
	slots []slot
}

// sequence is its blocks, from the first one on.
type sequence []*block

func (s sequence) tokens() []int {
	var out []int
	for _, b := range s {
		for _, l := range b.slots {
			out = append(out, l.token)
		}
	}
	return out
}

func (s sequence) cells() []decoder.Cell {
	var out []decoder.Cell
	for _, b := range s {
		for _, l := range b.slots {
			out = append(out, l.cell)
		}
	}
	return out
}

// room tells how many tokens a sequence may still come to have.
func (s sequence) room() int { return api.MaxLength - len(s.tokens()) }

// put puts tokens behind those of a sequence, or makes it of them, all at once. Their cells are handed in if they are reckoned already, else nil.
func (h *Hoard) put(id int, more []int, reckoned []decoder.Cell) api.Errno {
	if len(more) == 0 {
		return api.OK
	}
	s := h.sequences[id] // without blocks, if it is new
	tokens := append(s.tokens(), more...)
	tail := h.tail(s)
	if h.unshared(tokens)-len(tail) > h.pool.Free() {
		return api.ErrFull
	}
	known := append(s.cells(), reckoned...)
	// The tail's block is free ahead of what is needed anew: the sequence goes on in it, unless it comes to have a whole block that there is.
	for _, b := range tail {
		h.pool.Give(b)
	}
	h.sequences[id] = h.lay(tokens, known)
	return api.OK
}

// tail is what lies behind a sequence's whole blocks: one block, or none.
func (h *Hoard) tail(s sequence) sequence {
	whole := len(s.tokens()) / h.config.Slots
	return s[whole:]
}

// unshared tells how many blocks of these tokens are not there as whole ones.
func (h *Hoard) unshared(tokens []int) int {
	n := 0
	for from := 0; from < len(tokens); from += h.config.Slots {
		if _, there := h.shared(tokens, from); !there {
			n++
		}
	}
	return n
}

// shared gives the whole block that begins there, if there is one: it is told by all tokens up to its end. A tail is never shared by its tokens.
func (h *Hoard) shared(tokens []int, from int) (*block, bool) {
	end := from + h.config.Slots
	if end > len(tokens) {
		return nil, false
	}
	return h.whole.At(tokens[:end])
}

// lay lays tokens into blocks; there must be as many free ones as it needs anew. Of the first tokens the cells are known.
func (h *Hoard) lay(tokens []int, known []decoder.Cell) sequence {
	var s sequence
	for from := 0; from < len(tokens); from += h.config.Slots {
		b, there := h.shared(tokens, from)
		if !there {
			b = h.fill(tokens, from, known)
		}
		s = append(s, b)
		if cells := s.cells(); len(cells) > len(known) {
			known = cells
		}
	}
	return s
}

// fill takes a free block for the tokens from there on. The cells of all that are ahead of it are known, and those of its own may be.
func (h *Hoard) fill(tokens []int, from int, known []decoder.Cell) *block {
	end := min(from+h.config.Slots, len(tokens))
	b := h.pool.Take()
	for p := from; p < end; p++ {
		if p == len(known) {
			_, cell := h.model.Pass(tokens[p], known, nil)
			known = append(known, cell)
		}
		b.slots = append(b.slots, slot{tokens[p], known[p]})
	}
	if len(b.slots) == h.config.Slots {
		h.whole.Put(tokens[:end], b)
	}
	return b
}
