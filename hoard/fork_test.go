package hoard_test

import (
	"math"
	"slices"
	"testing"

	"hoard/api"
	"hoard/hoard"
)

func stats(t *testing.T, h *hoard.Hoard, free, idle, used int) {
	t.Helper()
	if s := h.Stats(); s != (api.Stats{Free: free, Idle: idle, Used: used}) {
		t.Fatalf("Stats = %+v, want %d free, %d idle, %d used", s, free, idle, used)
	}
}

func forked(t *testing.T, h *hoard.Hoard, id, other int, want api.Errno) {
	t.Helper()
	if e := h.Fork(id, other); e != want {
		t.Fatalf("Fork(%d, %d) = %d, want %d", id, other, e, want)
	}
}

func freed(t *testing.T, h *hoard.Hoard, id int, want api.Errno) {
	t.Helper()
	if e := h.Free(id); e != want {
		t.Fatalf("Free(%d) = %d, want %d", id, e, want)
	}
}

func evicted(t *testing.T, h *hoard.Hoard, n, want int) {
	t.Helper()
	if got := h.Evict(n); got != want {
		t.Fatalf("Evict(%d) = %d, want %d", n, got, want)
	}
}

// The document's examples 1 and 2.
func TestExamples(t *testing.T) {
	h := made(t, small)
	stats(t, h, 4, 0, 0)
	create(t, h, 1, []int{0, 1, 2}, api.OK)
	stats(t, h, 2, 0, 2)
	create(t, h, 2, []int{0, 1, 3}, api.OK)
	stats(t, h, 1, 0, 3)
	forked(t, h, 1, 5, api.OK)
	stats(t, h, 1, 0, 3)
	appended(t, h, 5, []int{2}, api.OK)
	stats(t, h, 0, 0, 4)
	appended(t, h, 1, []int{2}, api.OK)
	stats(t, h, 1, 0, 3)
	for id, tokens := range map[int][]int{1: {0, 1, 2, 2}, 2: {0, 1, 3}, 5: {0, 1, 2, 2}} {
		holds(t, h, small, id, tokens)
	}
	freed(t, h, 2, api.OK)
	stats(t, h, 2, 0, 2)
	freed(t, h, 1, api.OK)
	stats(t, h, 2, 0, 2)
	freed(t, h, 5, api.OK)
	stats(t, h, 2, 2, 0)
	create(t, h, 7, []int{0, 1}, api.OK)
	stats(t, h, 2, 1, 1)
	create(t, h, 8, []int{3, 3, 3, 3}, api.OK)
	stats(t, h, 0, 1, 3)
	create(t, h, 9, []int{1}, api.OK)
	stats(t, h, 0, 0, 4)
	for id, tokens := range map[int][]int{7: {0, 1}, 8: {3, 3, 3, 3}, 9: {1}} {
		holds(t, h, small, id, tokens)
	}
}

func TestP6ForkErrors(t *testing.T) {
	h := made(t, small)
	forked(t, h, 0, 0, api.ErrNone)
	create(t, h, 1, []int{0, 1, 2}, api.OK)
	forked(t, h, 2, 1, api.ErrNone) // though 1 is there
	forked(t, h, 2, 2, api.ErrNone)
	forked(t, h, 1, 1, api.ErrThere)
	for _, id := range []int{math.MinInt, -1, 0, 2, 3, 4, math.MaxInt} {
		forked(t, h, 1, id, api.OK)
		forked(t, h, 1, id, api.ErrThere)
	}
	stats(t, h, 2, 0, 2)
	forked(t, h, 5, 6, api.ErrNone) // ahead of: there are MaxSequences
	forked(t, h, 1, 2, api.ErrThere)
	forked(t, h, 1, 5, api.ErrArg)
	forked(t, h, math.MaxInt, 5, api.ErrArg)
	isNone(t, h, 5)
	for _, id := range []int{math.MinInt, -1, 0, 1, 2, 3, 4, math.MaxInt} {
		holds(t, h, small, id, []int{0, 1, 2})
	}
	freed(t, h, 3, api.OK)
	forked(t, h, 4, 5, api.OK)
	holds(t, h, small, 5, []int{0, 1, 2})
	stats(t, h, 2, 0, 2)
}

func TestP6AForkNeedsNoBlock(t *testing.T) {
	for slots := 1; slots <= api.MaxSlots; slots++ {
		c := small
		c.Slots = slots
		for length := 1; length <= 4*slots; length++ {
			h := made(t, c)
			tokens := []int{0, 1, 2, 3, 3, 2, 1, 0, 1, 3, 0, 2, 2, 0, 3, 1}[:length]
			create(t, h, 1, tokens, api.OK)
			used := (length + slots - 1) / slots
			for other := 2; other <= api.MaxSequences; other++ {
				forked(t, h, other-1, other, api.OK)
				stats(t, h, 4-used, 0, used)
				holds(t, h, c, other, tokens)
			}
			for id := 1; id < api.MaxSequences; id++ {
				freed(t, h, id, api.OK)
				stats(t, h, 4-used, 0, used)
			}
			holds(t, h, c, api.MaxSequences, tokens)
			freed(t, h, api.MaxSequences, api.OK)
			stats(t, h, 4-length/slots, length/slots, 0)
		}
	}
}

func TestP6WhoWritesIntoASharedTailHasOneOfItsOwn(t *testing.T) {
	for _, writer := range []int{1, 2, 3} {
		c := api.Config{Blocks: 5, Slots: 4, Layers: 2, Heads: 1, Pairs: 2, Vocab: 4}
		h := made(t, c)
		create(t, h, 1, []int{3, 2, 1, 0, 0, 1}, api.OK)
		forked(t, h, 1, 2, api.OK)
		forked(t, h, 2, 3, api.OK)
		stats(t, h, 3, 0, 2)
		appended(t, h, writer, []int{2}, api.OK)
		stats(t, h, 2, 0, 3)
		appended(t, h, writer, []int{3}, api.OK) // in its own now
		stats(t, h, 2, 0, 3)
		for id := 1; id <= 3; id++ {
			want := []int{3, 2, 1, 0, 0, 1}
			if id == writer {
				want = append(want, 2, 3)
			}
			holds(t, h, c, id, want)
		}
	}
}

func TestP6TheLastOneThatHasATailGoesOnInIt(t *testing.T) {
	c := small
	c.Slots, c.Blocks = 4, 3
	h := made(t, c)
	create(t, h, 1, []int{3}, api.OK)
	forked(t, h, 1, 2, api.OK)
	forked(t, h, 1, 3, api.OK)
	appended(t, h, 3, []int{0}, api.OK)
	appended(t, h, 1, []int{1}, api.OK)
	stats(t, h, 0, 0, 3)
	appended(t, h, 2, []int{2, 2, 2}, api.OK) // 1 and 3 have left it
	stats(t, h, 0, 0, 3)
	for id, tokens := range map[int][]int{1: {3, 1}, 2: {3, 2, 2, 2}, 3: {3, 0}} {
		holds(t, h, c, id, tokens)
	}
	forked(t, h, 3, 4, api.OK)
	appended(t, h, 3, []int{0}, api.ErrFull)
	appended(t, h, 4, []int{0}, api.ErrFull)
	freed(t, h, 3, api.OK)
	appended(t, h, 4, []int{0}, api.OK)
	stats(t, h, 0, 0, 3)
	holds(t, h, c, 4, []int{3, 0, 0})
}

func TestP6NothingPutIntoASharedTailLeavesItShared(t *testing.T) {
	h := made(t, small)
	create(t, h, 1, []int{0, 1, 2}, api.OK)
	forked(t, h, 1, 2, api.OK)
	appended(t, h, 2, nil, api.OK)
	appended(t, h, 1, []int{}, api.OK)
	decode(t, h, 2, 0, nil, api.OK)
	stats(t, h, 2, 0, 2)
	create(t, h, 3, []int{3, 3, 3}, api.OK)
	appended(t, h, 1, nil, api.OK) // nor does it need a free one
	decode(t, h, 1, 0, nil, api.OK)
	stats(t, h, 0, 0, 4)
	appended(t, h, 1, []int{0}, api.ErrFull)
	decode(t, h, 2, 1, nil, api.ErrFull)
	stats(t, h, 0, 0, 4)
	for id, tokens := range map[int][]int{1: {0, 1, 2}, 2: {0, 1, 2}, 3: {3, 3, 3}} {
		holds(t, h, small, id, tokens)
	}
}

func TestP6ASharedTailThatBecomesWholeNeedsNoBlockWhereThereIsOne(t *testing.T) {
	h := made(t, small)
	create(t, h, 1, []int{0, 1, 2}, api.OK)
	forked(t, h, 1, 2, api.OK)
	forked(t, h, 1, 3, api.OK)
	create(t, h, 4, []int{0, 1, 2, 3}, api.OK)
	create(t, h, 5, []int{0, 1, 0}, api.OK)
	stats(t, h, 0, 0, 4)
	appended(t, h, 1, []int{3}, api.OK)
	stats(t, h, 0, 0, 4) // 2 and 3 have the tail
	appended(t, h, 2, []int{3, 1}, api.ErrFull)
	appended(t, h, 2, []int{3}, api.OK)
	stats(t, h, 0, 0, 4) // 3 has it
	appended(t, h, 3, []int{3, 1}, api.OK)
	stats(t, h, 0, 0, 4) // it was left, and was enough for the next
	for id, tokens := range map[int][]int{1: {0, 1, 2, 3}, 2: {0, 1, 2, 3}, 3: {0, 1, 2, 3, 1}, 4: {0, 1, 2, 3}, 5: {0, 1, 0}} {
		holds(t, h, small, id, tokens)
	}
}

func TestP6DecodeInForks(t *testing.T) {
	c := greatest
	h := made(t, c)
	tokens := []int{1, 2, 3, 4, 5, 6}
	create(t, h, 1, tokens, api.OK)
	forked(t, h, 1, 2, api.OK)
	next := goneOn(c, tokens, 7)
	decode(t, h, 2, 7, next, api.OK) // two whole ones and a tail behind the shared one
	stats(t, h, 27, 0, 5)
	decode(t, h, 1, 2, next[:2], api.OK)
	stats(t, h, 28, 0, 4) // whole as the second of 2: its tail is free
	decode(t, h, 1, 5, next[2:], api.OK)
	stats(t, h, 27, 0, 5) // the tails are two
	for id := 1; id <= 2; id++ {
		holds(t, h, c, id, slices.Concat(tokens, next))
	}
}

func TestP6FreeErrors(t *testing.T) {
	h := made(t, small)
	for _, id := range []int{math.MinInt, -1, 0, 1, math.MaxInt} {
		freed(t, h, id, api.ErrNone)
		create(t, h, id, []int{0, 1, 2}, api.OK)
		freed(t, h, id, api.OK)
		isNone(t, h, id)
		freed(t, h, id, api.ErrNone)
		appended(t, h, id, nil, api.ErrNone)
		decode(t, h, id, 0, nil, api.ErrNone)
		forked(t, h, id, 5, api.ErrNone)
		stats(t, h, 3, 1, 0)
	}
}

func TestP6AFreedIdCanBeMadeAgain(t *testing.T) {
	h := made(t, small)
	for id := range api.MaxSequences {
		create(t, h, id, []int{0, 1}, api.OK)
	}
	create(t, h, 8, []int{0, 1}, api.ErrArg)
	freed(t, h, 3, api.OK)
	create(t, h, 8, []int{2, 2, 2}, api.OK)
	create(t, h, 3, []int{0, 1}, api.ErrArg)
	freed(t, h, 8, api.OK)
	create(t, h, 3, []int{1, 1, 1}, api.OK)
	holds(t, h, small, 3, []int{1, 1, 1})
	isNone(t, h, 8)
}

func TestP2ForksShareNothingThatComesOut(t *testing.T) {
	h, other := made(t, greatest), made(t, greatest)
	tokens := []int{1, 2, 3, 4, 5, 6}
	for _, x := range []*hoard.Hoard{h, other} {
		create(t, x, 1, tokens, api.OK)
	}
	forked(t, h, 1, 2, api.OK)
	for id := 1; id <= 2; id++ {
		l, _ := h.Tokens(id)
		m, _ := h.Logits(id)
		k, v, _ := h.Kept(id, 1, 5)
		scribble(l, m, k, v)
	}
	isNone(t, other, 2)
	more := []int{7, 8, 9, 10, 11}
	appended(t, h, 2, more[:1], api.OK)
	scribble(more)
	holds(t, h, greatest, 1, tokens)
	holds(t, h, greatest, 2, append(slices.Clone(tokens), 7))
	freed(t, h, 1, api.OK)
	evicted(t, h, 32, 0)
	holds(t, other, greatest, 1, tokens)
	stats(t, other, 30, 0, 2)
}
