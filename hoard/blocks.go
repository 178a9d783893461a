package hoard

import "hoard/decoder"

// slot is a token and what the decoder keeps of it.
type slot struct {
	token int
	cell  decoder.Cell
}

// block has up to Slots slots; with all of them it is whole.
type block struct {
	slots []slot
}

// sequence is its blocks, from the first one on.
type sequence []*block

func (s sequence) tokens() []int {
	var out []int
	for _, b := range s {
		for _, l := range b.slots {
			out = append(out, l.token)
		}
	}
	return out
}

func (s sequence) cells() []decoder.Cell {
	var out []decoder.Cell
	for _, b := range s {
		for _, l := range b.slots {
			out = append(out, l.cell)
		}
	}
	return out
}

// neededAnew tells how many blocks a new sequence with these tokens can't share with those that there are.
func (h *Hoard) neededAnew(tokens []int) int {
	n := 0
	for from := 0; from < len(tokens); from += h.config.Slots {
		if _, there := h.shared(tokens, from); !there {
			n++
		}
	}
	return n
}

// shared gives the whole block that begins there, if there is one: it is told by all tokens up to its end. A tail is never shared by its tokens.
func (h *Hoard) shared(tokens []int, from int) (*block, bool) {
	end := from + h.config.Slots
	if end > len(tokens) {
		return nil, false
	}
	return h.whole.At(tokens[:end])
}

// lay lays tokens into blocks; there must be as many free ones as it needs anew.
func (h *Hoard) lay(tokens []int) sequence {
	var s sequence
	for from := 0; from < len(tokens); from += h.config.Slots {
		b, there := h.shared(tokens, from)
		if !there {
			b = h.fill(tokens, from, s.cells())
		}
		s = append(s, b)
	}
	return s
}

// fill takes a free block for the tokens from there on, behind those whose cells are the past.
func (h *Hoard) fill(tokens []int, from int, past []decoder.Cell) *block {
	end := min(from+h.config.Slots, len(tokens))
	b := h.pool.Take()
	for _, token := range tokens[from:end] {
		_, cell := h.model.Pass(token, past)
		past = append(past, cell)
		b.slots = append(b.slots, slot{token, cell})
	}
	if len(b.slots) == h.config.Slots {
		h.whole.Put(tokens[:end], b)
	}
	return b
}
