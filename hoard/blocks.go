package hoard

import (
	"hoard/api"
	"hoard/decoder"
)

// slot is a token and what the decoder keeps of it.
type slot struct {
	token int
	cell  decoder.Cell
}

// block has up to Slots slots; with all of them it is whole. A sequence is told by its last block.
type block struct {
	slots []slot
	ahead *block // the same one in all sequences that have this one; nil, if this is the first
	users int    // how many sequences have it
}

// all is the slots up to a block's end, from the first one on. Of no block there are none.
func (b *block) all() []slot {
	if b == nil {
		return nil
	}
	return append(b.ahead.all(), b.slots...)
}

func (b *block) tokens() []int {
	var out []int
	for _, l := range b.all() {
		out = append(out, l.token)
	}
	return out
}

func (b *block) cells() []decoder.Cell {
	var out []decoder.Cell
	for _, l := range b.all() {
		out = append(out, l.cell)
	}
	return out
}

// idle tells how many blocks up to this one no sequence has.
func (b *block) idle() int {
	n := 0
	for ; b != nil; b = b.ahead {
		if b.users == 0 {
			n++
		}
	}
	return n
}

// room tells how many tokens a sequence with this last block may still come to have.
func (b *block) room() int { return api.MaxLength - len(b.all()) }

func (h *Hoard) isWhole(b *block) bool { return len(b.slots) == h.config.Slots }

// blocksOf tells how many blocks so many tokens lie in.
func (h *Hoard) blocksOf(tokens int) int {
	return (tokens + h.config.Slots - 1) / h.config.Slots
}

// put puts tokens behind those of a sequence, or makes it of them, all at once. Their cells are handed in if they are reckoned already, else nil.
func (h *Hoard) put(id int, more []int, reckoned []decoder.Cell) api.Errno {
	if len(more) == 0 {
		return api.OK
	}
	last := h.sequences[id] // nil, if the sequence is new
	tokens := append(last.tokens(), more...)
	found, _ := h.whole.Farthest(tokens) // those ahead of it are there too: they became idle later, and so they go later
	anew := h.anew(last, found, len(tokens))
	if anew > h.pool.Free()+h.idle.Len()-found.idle() {
		return api.ErrFull
	}
	known := append(last.cells(), reckoned...)
	h.use(found)
	h.Evict(anew - h.pool.Free())
	h.leave(last) // as the last ahead of laying: its whole blocks are used by what was found, and a tail of its own is what the pool hands out first
	h.sequences[id] = h.lay(found, tokens, known)
	return api.OK
}

// anew tells how many blocks a sequence needs anew to have so many tokens, of which there are already those up to a found block. A tail of its own makes up for one: the sequence goes on in it, or leaves it.
func (h *Hoard) anew(last, found *block, tokens int) int {
	n := h.blocksOf(tokens - len(found.all()))
	if last != nil && !h.isWhole(last) && last.users == 1 {
		n--
	}
	return n
}

// lay lays the tokens behind those of a block into free ones, which are enough. Of the first tokens the cells are known.
func (h *Hoard) lay(last *block, tokens []int, known []decoder.Cell) *block {
	for len(last.all()) < len(tokens) {
		last = h.fill(last, tokens, known)
	}
	return last
}

// fill takes a free block for the tokens behind those of a block. Of the first tokens the cells are known.
func (h *Hoard) fill(ahead *block, tokens []int, known []decoder.Cell) *block {
	b := h.pool.Take()
	b.ahead, b.users = ahead, 1
	cells := ahead.cells()
	end := min(len(cells)+h.config.Slots, len(tokens))
	for p := len(cells); p < end; p++ {
		var cell decoder.Cell
		if p < len(known) {
			cell = known[p]
		} else {
			_, cell = h.model.Pass(tokens[p], cells, nil)
		}
		cells = append(cells, cell)
		b.slots = append(b.slots, slot{tokens[p], cell})
	}
	if h.isWhole(b) {
		h.whole.Put(tokens[:end], b)
	}
	return b
}
