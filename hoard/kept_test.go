package hoard

import (
	"slices"
	"testing"

	"hoard/api"
	"hoard/decoder"
)

// marked makes a hoard with a sequence, and writes over what is kept of it, so that it is seen whether that is reckoned again.
func marked(t *testing.T) *Hoard {
	t.Helper()
	h, _ := New(api.Config{Blocks: 16, Slots: 2, Layers: 1, Heads: 1, Pairs: 1, Vocab: 4})
	if e := h.Create(1, []int{0, 1, 2}); e != api.OK {
		t.Fatal(e)
	}
	for p := range 3 {
		h.sequences[1][p/2].slots[p%2].cell = mark(p)
	}
	return h
}

// mark is what no token comes to at this position; it counts for all tokens behind it as much as each other mark.
func mark(p int) decoder.Cell {
	return decoder.Cell{{K: []int{0, 0}, V: []int{4095 - 4000*p, 4095}}}
}

func isMarked(t *testing.T, h *Hoard, id int) {
	t.Helper()
	for p := range 3 {
		want := mark(p)[0]
		if k, v, e := h.Kept(id, 0, p); e != api.OK || !slices.Equal(k, want.K) || !slices.Equal(v, want.V) {
			t.Errorf("what was kept of %d was reckoned again: %v, %v, %d", p, k, v, e)
		}
	}
}

func TestWhatIsKeptIsNotReckonedAgain(t *testing.T) {
	h := marked(t)
	if e := h.Append(1, []int{3, 3, 3}); e != api.OK {
		t.Fatal(e)
	}
	isMarked(t, h, 1)
	if _, e := h.Decode(1, 4); e != api.OK {
		t.Fatal(e)
	}
	isMarked(t, h, 1)
	h.Create(2, []int{0, 1, 2, 3, 1})
	h.Create(3, []int{0})
	h.Append(3, []int{1, 2, 3, 0})
	isMarked(t, h, 2)
	isMarked(t, h, 3)
}

func TestDecodeGoesOnFromWhatIsKept(t *testing.T) {
	h := marked(t)
	cells := h.sequences[1].cells()
	x, _ := h.model.Pass(2, cells[:2], cells[2])
	want := h.model.Logits(x)
	if got, e := h.Logits(1); e != api.OK || !slices.Equal(got, want) {
		t.Errorf("Logits = %v, %d, want %v", got, e, want)
	}
	token := h.model.Next(x)
	if got, e := h.Decode(1, 1); e != api.OK || !slices.Equal(got, []int{token}) {
		t.Errorf("Decode = %v, %d, want %d", got, e, token)
	}
	_, cell := h.model.Pass(token, cells, nil)
	if k, v, _ := h.Kept(1, 0, 3); !slices.Equal(k, cell[0].K) || !slices.Equal(v, cell[0].V) {
		t.Errorf("Kept = %v, %v, want %v", k, v, cell)
	}
}

// A block that was left holds nothing, and none is lost.
func TestATailThatIsLeftGoesBackToThePool(t *testing.T) {
	h := marked(t)
	h.Create(2, []int{0, 1, 2})
	tail := h.sequences[2][1]
	h.Append(1, []int{3})
	h.Append(2, []int{3})
	if h.sequences[2][1] != h.sequences[1][1] || tail.slots != nil || h.pool.Free() != 14 {
		t.Errorf("%d are free; in the tail that was left: %v", h.pool.Free(), tail.slots)
	}
}

func TestATailThatGoesOnStaysTheSameBlock(t *testing.T) {
	h := marked(t)
	tail := h.sequences[1][1]
	h.Append(1, []int{3, 3})
	if h.sequences[1][1] != tail || h.sequences[1][2] == tail {
		t.Errorf("the tail's block is another one")
	}
}
