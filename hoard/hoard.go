// Package hoard: many texts in few blocks, and a small machine that goes on with them: see DOC.md.
package hoard

import (
	"slices"

	"hoard/api"
	"hoard/decoder"
	"hoard/store"
)

// Hoard holds sequences.
type Hoard struct {
	config    api.Config
	model     *decoder.Model
	pool      *store.Pool[block]
	whole     store.Tree[int, *block] // in use or idle, by all tokens up to their end
	idle      store.List[*block]
	sequences map[int]*block // their last ones
}

// New makes a hoard (P3).
func New(c api.Config) (*Hoard, api.Errno) {
	if !isConfig(c) {
		return nil, api.ErrArg
	}
	return &Hoard{
		config:    c,
		model:     decoder.New(c),
		pool:      store.NewPool[block](c.Blocks),
		sequences: map[int]*block{},
	}, api.OK
}

func isConfig(c api.Config) bool {
	return within(c.Blocks, 1, api.MaxBlocks) &&
		within(c.Slots, 1, api.MaxSlots) &&
		within(c.Layers, 1, api.MaxLayers) &&
		within(c.Heads, 1, api.MaxHeads) &&
		within(c.Pairs, 1, api.MaxPairs) &&
		within(c.Vocab, 2, api.MaxVocab)
}

func within(n, least, most int) bool { return least <= n && n <= most }

// Create makes a sequence (P4).
func (h *Hoard) Create(id int, tokens []int) api.Errno {
	_, there := h.sequences[id]
	switch {
	case there:
		return api.ErrThere
	case len(h.sequences) >= api.MaxSequences || len(tokens) == 0:
		return api.ErrArg
	case slices.ContainsFunc(tokens, h.isNoToken):
		return api.ErrToken
	case len(tokens) > api.MaxLength:
		return api.ErrLong
	}
	return h.put(id, tokens, nil)
}

func (h *Hoard) isNoToken(n int) bool { return !within(n, 0, h.config.Vocab-1) }

// Append puts tokens behind a sequence's (P4).
func (h *Hoard) Append(id int, tokens []int) api.Errno {
	last, there := h.sequences[id]
	switch {
	case !there:
		return api.ErrNone
	case slices.ContainsFunc(tokens, h.isNoToken):
		return api.ErrToken
	case len(tokens) > last.room():
		return api.ErrLong
	}
	return h.put(id, tokens, nil)
}

// Decode goes on with a sequence (P5).
func (h *Hoard) Decode(id int, n int) ([]int, api.Errno) {
	last, there := h.sequences[id]
	switch {
	case !there:
		return nil, api.ErrNone
	case n < 0:
		return nil, api.ErrArg
	case n > last.room():
		return nil, api.ErrLong
	}
	next, cells := h.goOn(last, n)
	if e := h.put(id, next, cells); e != api.OK {
		return nil, e
	}
	return next, api.OK
}

// Fork makes another sequence of one (P6).
func (h *Hoard) Fork(id int, other int) api.Errno {
	last, there := h.sequences[id]
	_, otherThere := h.sequences[other]
	switch {
	case !there:
		return api.ErrNone
	case otherThere:
		return api.ErrThere
	case len(h.sequences) >= api.MaxSequences:
		return api.ErrArg
	}
	h.use(last)
	h.sequences[other] = last
	return api.OK
}

// Free takes a sequence away (P6).
func (h *Hoard) Free(id int) api.Errno {
	last, there := h.sequences[id]
	if !there {
		return api.ErrNone
	}
	h.leave(last)
	delete(h.sequences, id)
	return api.OK
}

// Evict frees idle blocks (P6).
func (h *Hoard) Evict(n int) int {
	n = max(0, min(n, h.idle.Len()))
	for range n {
		h.down(h.idle.First(), idle)
	}
	return n
}

// Tokens tells a sequence's tokens (P7).
func (h *Hoard) Tokens(id int) ([]int, api.Errno) {
	last, there := h.sequences[id]
	if !there {
		return nil, api.ErrNone
	}
	return last.tokens(), api.OK
}

// Logits tells what the decoder holds of each token to come (P7).
func (h *Hoard) Logits(id int) ([]int, api.Errno) {
	last, there := h.sequences[id]
	if !there {
		return nil, api.ErrNone
	}
	return h.model.Logits(h.behind(last)), api.OK
}

// Kept tells what is kept of a position (P7).
func (h *Hoard) Kept(id int, layer int, position int) ([]int, []int, api.Errno) {
	last, there := h.sequences[id]
	if !there {
		return nil, nil, api.ErrNone
	}
	cells := last.cells()
	if !within(layer, 0, h.config.Layers-1) || !within(position, 0, len(cells)-1) {
		return nil, nil, api.ErrArg
	}
	kept := cells[position][layer]
	return slices.Clone(kept.K), slices.Clone(kept.V), api.OK
}

// Stats tells how the blocks are (P7).
func (h *Hoard) Stats() api.Stats {
	s := api.Stats{Free: h.pool.Free(), Idle: h.idle.Len()}
	s.Used = h.config.Blocks - s.Free - s.Idle
	return s
}
