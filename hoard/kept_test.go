package hoard

import (
	"slices"
	"testing"

	"hoard/api"
	"hoard/decoder"
)

// marked makes a hoard with a sequence, and writes over what is kept of it, so that it is seen whether that is reckoned again.
func marked(t *testing.T) *Hoard {
	t.Helper()
	h, _ := New(api.Config{Blocks: 16, Slots: 2, Layers: 1, Heads: 1, Pairs: 1, Vocab: 4})
	if e := h.Create(1, []int{0, 1, 2}); e != api.OK {
		t.Fatal(e)
	}
	for p := range 3 {
		blocksOf(h, 1)[p/2].slots[p%2].cell = mark(p)
	}
	return h
}

// blocksOf is a sequence's blocks, from the first one on.
func blocksOf(h *Hoard, id int) []*block {
	var out []*block
	for b := h.sequences[id]; b != nil; b = b.ahead {
		out = append(out, b)
	}
	slices.Reverse(out)
	return out
}

// mark is what no token comes to at this position; it counts for all tokens behind it as much as each other mark.
func mark(p int) decoder.Cell {
	return decoder.Cell{{K: []int{0, 0}, V: []int{4095 - 4000*p, 4095}}}
}

func isMarked(t *testing.T, h *Hoard, id int) {
	t.Helper()
	for p := range 3 {
		want := mark(p)[0]
		if k, v, e := h.Kept(id, 0, p); e != api.OK || !slices.Equal(k, want.K) || !slices.Equal(v, want.V) {
			t.Errorf("what was kept of %d was reckoned again: %v, %v, %d", p, k, v, e)
		}
	}
}

func TestWhatIsKeptIsNotReckonedAgain(t *testing.T) {
	h := marked(t)
	if e := h.Append(1, []int{3, 3, 3}); e != api.OK {
		t.Fatal(e)
	}
	isMarked(t, h, 1)
	if _, e := h.Decode(1, 4); e != api.OK {
		t.Fatal(e)
	}
	isMarked(t, h, 1)
	h.Create(2, []int{0, 1, 2, 3, 1})
	h.Create(3, []int{0})
	h.Append(3, []int{1, 2, 3, 0})
	isMarked(t, h, 2)
	isMarked(t, h, 3)
}

func TestDecodeGoesOnFromWhatIsKept(t *testing.T) {
	h := marked(t)
	cells := h.sequences[1].cells()
	x, _ := h.model.Pass(2, cells[:2], cells[2])
	want := h.model.Logits(x)
	if got, e := h.Logits(1); e != api.OK || !slices.Equal(got, want) {
		t.Errorf("Logits = %v, %d, want %v", got, e, want)
	}
	token := h.model.Next(x)
	if got, e := h.Decode(1, 1); e != api.OK || !slices.Equal(got, []int{token}) {
		t.Errorf("Decode = %v, %d, want %d", got, e, token)
	}
	_, cell := h.model.Pass(token, cells, nil)
	if k, v, _ := h.Kept(1, 0, 3); !slices.Equal(k, cell[0].K) || !slices.Equal(v, cell[0].V) {
		t.Errorf("Kept = %v, %v, want %v", k, v, cell)
	}
}

// A block that was left holds nothing, and none is lost.
func TestATailThatIsLeftGoesBackToThePool(t *testing.T) {
	h := marked(t)
	h.Create(2, []int{0, 1, 2})
	tail := h.sequences[2]
	h.Append(1, []int{3})
	h.Append(2, []int{3})
	if h.sequences[2] != h.sequences[1] || !isBlank(tail) || h.pool.Free() != 14 {
		t.Errorf("%d are free; the tail that was left: %v", h.pool.Free(), *tail)
	}
}

func isBlank(b *block) bool { return b.slots == nil && b.ahead == nil && b.users == 0 }

func TestATailThatGoesOnStaysTheSameBlock(t *testing.T) {
	for idle := range 15 { // with all 14 idle, one must go for the block behind
		h := marked(t)
		if idle > 0 {
			h.Create(2, make([]int, 2*idle))
			h.Free(2)
		}
		tail := h.sequences[1]
		if e := h.Append(1, []int{3, 3}); e != api.OK || h.idle.Len() != min(idle, 13) {
			t.Fatalf("Append = %d, and %d are idle", e, h.idle.Len())
		}
		if l := blocksOf(h, 1); l[1] != tail || l[2] == tail {
			t.Errorf("with %d idle blocks the tail's block is another one", idle)
		}
	}
}

// A fork that writes has a block of its own, but for its tokens nothing is reckoned again.
func TestWhatAForkHasIsNotReckonedAgain(t *testing.T) {
	h := marked(t)
	h.Fork(1, 2)
	if h.sequences[1] != h.sequences[2] {
		t.Errorf("the fork has other blocks")
	}
	h.Append(2, []int{3})
	if one, two := blocksOf(h, 1), blocksOf(h, 2); one[0] != two[0] || one[1] == two[1] {
		t.Errorf("1 has %p, 2 has %p", one, two)
	}
	isMarked(t, h, 1)
	isMarked(t, h, 2)
}

func TestWhatIsIdleIsNotReckonedAgain(t *testing.T) {
	h := marked(t)
	h.Append(1, []int{3})
	blocks := blocksOf(h, 1)
	h.Free(1)
	h.Create(2, []int{0, 1, 2, 3, 0})
	isMarked(t, h, 2)
	if !slices.Equal(blocksOf(h, 2)[:2], blocks) {
		t.Errorf("the idle blocks are not those that are in use again")
	}
}

// What was freed is held by nobody, and is reckoned anew.
func TestWhatIsFreeHoldsNothing(t *testing.T) {
	h := marked(t)
	h.Append(1, []int{3, 3})
	blocks := blocksOf(h, 1)
	h.Free(1)
	h.Evict(api.MaxBlocks)
	if slices.IndexFunc(blocks, func(b *block) bool { return !isBlank(b) }) >= 0 {
		t.Errorf("in what is free there are %v, %v, %v", *blocks[0], *blocks[1], *blocks[2])
	}
	if _, there := h.whole.Farthest([]int{0, 1, 2, 3}); there || len(h.sequences) != 0 || h.idle.Len() != 0 {
		t.Errorf("something is kept: %v", there)
	}
	fresh, _ := New(h.config)
	for _, x := range []*Hoard{h, fresh} {
		x.Create(2, []int{0, 1, 2, 3})
	}
	got, want := h.sequences[2].cells(), fresh.sequences[2].cells()
	for p := range want {
		if !slices.Equal(got[p][0].K, want[p][0].K) || !slices.Equal(got[p][0].V, want[p][0].V) {
			t.Errorf("at %d is kept %v, of a fresh hoard %v", p, got[p], want[p])
		}
	}
}
