package hoard_test

import (
	"math"
	"testing"

	"hoard/api"
	"hoard/hoard"
)

// line is a hoard with one token in each block, so that each token of a sequence is a block that is told by those up to it.
var line = api.Config{Blocks: 8, Slots: 1, Layers: 1, Heads: 1, Pairs: 1, Vocab: 4}

// there tells whether a whole block is in use or idle; there must be free ones, and the hoard can't be used behind it.
func there(t *testing.T, h *hoard.Hoard, tokens []int) bool {
	t.Helper()
	before := h.Stats().Free
	create(t, h, 999, tokens, api.OK)
	return h.Stats().Free == before
}

// goIn tells whether just these blocks are idle, and go in this order. The hoard is built anew each time.
func goIn(t *testing.T, build func() *hoard.Hoard, order ...[]int) {
	t.Helper()
	for gone := range len(order) + 1 {
		for i, tokens := range order {
			h := build()
			if idle := h.Stats().Idle; idle != len(order) {
				t.Fatalf("%d blocks are idle, want %v", idle, order)
			}
			evicted(t, h, gone, gone)
			if got := there(t, h, tokens); got != (i >= gone) {
				t.Errorf("%d evicted of %v: %v is there: %v", gone, order, tokens, got)
			}
		}
	}
}

func TestP6TheLaterBlocksOfASequenceGoFirst(t *testing.T) {
	goIn(t, func() *hoard.Hoard {
		h := made(t, line)
		create(t, h, 1, []int{0, 1, 2}, api.OK)
		freed(t, h, 1, api.OK)
		return h
	}, []int{0, 1, 2}, []int{0, 1}, []int{0})
	two := line
	two.Slots = 2
	goIn(t, func() *hoard.Hoard {
		h := made(t, two)
		create(t, h, 1, []int{0, 1, 2, 3, 0, 1, 2}, api.OK)
		freed(t, h, 1, api.OK)
		stats(t, h, 5, 3, 0) // the tail is free
		return h
	}, []int{0, 1, 2, 3, 0, 1}, []int{0, 1, 2, 3}, []int{0, 1})
}

func TestP6WhatBecameIdleFirstGoesFirst(t *testing.T) {
	goIn(t, func() *hoard.Hoard {
		h := made(t, line)
		create(t, h, 1, []int{3, 3}, api.OK)
		create(t, h, 2, []int{0, 1}, api.OK)
		create(t, h, 3, []int{2}, api.OK)
		for _, id := range []int{2, 3, 1} {
			freed(t, h, id, api.OK)
		}
		return h
	}, []int{0, 1}, []int{0}, []int{2}, []int{3, 3}, []int{3})
}

func TestP6JustWhatNobodyHasBecomesIdle(t *testing.T) {
	goIn(t, func() *hoard.Hoard {
		h := made(t, line)
		create(t, h, 1, []int{0, 1, 2}, api.OK)
		create(t, h, 2, []int{0, 1, 3}, api.OK)
		forked(t, h, 2, 3, api.OK)
		freed(t, h, 2, api.OK)
		stats(t, h, 4, 0, 4)
		freed(t, h, 1, api.OK)
		stats(t, h, 4, 1, 3)
		freed(t, h, 3, api.OK)
		return h
	}, []int{0, 1, 2}, []int{0, 1, 3}, []int{0, 1}, []int{0})
}

func TestP6WhatWasTakenUpBecomesIdleAnew(t *testing.T) {
	goIn(t, func() *hoard.Hoard {
		h := made(t, line)
		create(t, h, 1, []int{0, 1, 2}, api.OK)
		freed(t, h, 1, api.OK)
		create(t, h, 2, []int{3}, api.OK)
		create(t, h, 3, []int{0, 1}, api.OK) // 0 1 2 stays idle
		stats(t, h, 4, 1, 3)
		freed(t, h, 2, api.OK)
		freed(t, h, 3, api.OK)
		return h
	}, []int{0, 1, 2}, []int{3}, []int{0, 1}, []int{0})
}

// Append and Decode leave no whole block, and so make none idle; what they take up is in use.
func TestP6AppendLeavesTheOrderAlone(t *testing.T) {
	goIn(t, func() *hoard.Hoard {
		h := made(t, line)
		create(t, h, 1, []int{3, 3}, api.OK)
		create(t, h, 2, []int{0, 1, 2}, api.OK)
		freed(t, h, 1, api.OK)
		forked(t, h, 2, 1, api.OK)
		freed(t, h, 2, api.OK)
		freed(t, h, 1, api.OK)
		create(t, h, 4, []int{2}, api.OK)
		create(t, h, 5, []int{0}, api.OK)
		appended(t, h, 4, []int{2}, api.OK)
		appended(t, h, 5, []int{1}, api.OK) // takes up 0 1
		freed(t, h, 5, api.OK)
		return h
	}, []int{3, 3}, []int{3}, []int{0, 1, 2}, []int{0, 1}, []int{0})
}

func TestP6EvictTellsHowMany(t *testing.T) {
	h := made(t, line)
	for _, n := range []int{math.MinInt, -1, 0, 1, math.MaxInt} {
		evicted(t, h, n, 0)
	}
	create(t, h, 1, []int{0, 1, 2, 3}, api.OK)
	evicted(t, h, 8, 0)
	forked(t, h, 1, 2, api.OK)
	freed(t, h, 1, api.OK)
	evicted(t, h, 8, 0)
	freed(t, h, 2, api.OK)
	for _, n := range []int{math.MinInt, -8, -1, 0} {
		evicted(t, h, n, 0)
		stats(t, h, 4, 4, 0)
	}
	evicted(t, h, 1, 1)
	stats(t, h, 5, 3, 0)
	evicted(t, h, 2, 2)
	stats(t, h, 7, 1, 0)
	evicted(t, h, math.MaxInt, 1)
	stats(t, h, 8, 0, 0)
	evicted(t, h, 1, 0)
}

func TestP4NoMoreIdleBlocksAreFreedThanMustBe(t *testing.T) {
	for idle := 0; idle <= 4; idle++ { // and as many free ones as make up four
		for length := 1; length <= 5; length++ {
			c := line
			c.Blocks = 4
			h := made(t, c)
			if idle > 0 {
				create(t, h, 1, []int{0, 0, 0, 0}[:idle], api.OK)
				freed(t, h, 1, api.OK)
			}
			want := api.OK
			if length > 4 {
				want = api.ErrFull
			}
			create(t, h, 2, []int{1, 1, 1, 1, 1}[:length], want)
			if want == api.OK {
				left := min(idle, 4-length)
				stats(t, h, 4-length-left, left, length)
			} else {
				stats(t, h, 4-idle, idle, 0)
			}
		}
	}
}

// full is a hoard without free blocks; idle are, in this order: 0 1, 0, 2, 3 3, 3.
func full(t *testing.T) *hoard.Hoard {
	t.Helper()
	c := line
	c.Blocks = 6
	h := made(t, c)
	create(t, h, 1, []int{0, 1}, api.OK)
	create(t, h, 2, []int{2}, api.OK)
	create(t, h, 3, []int{3, 3}, api.OK)
	create(t, h, 4, []int{1}, api.OK)
	for id := 1; id <= 3; id++ {
		freed(t, h, id, api.OK)
	}
	stats(t, h, 0, 5, 1)
	return h
}

func TestP4WhatTheCallTakesUpIsNotFreed(t *testing.T) {
	for _, c := range []struct {
		put        func(h *hoard.Hoard) api.Errno
		e          api.Errno
		idle, used int
		yet        [][]int // what is idle yet
	}{
		{func(h *hoard.Hoard) api.Errno { return h.Create(9, []int{0, 1}) }, api.OK, 3, 3, [][]int{{2}, {3, 3}, {3}}},
		{func(h *hoard.Hoard) api.Errno { return h.Create(9, []int{0, 1, 2}) }, api.OK, 2, 4, [][]int{{3, 3}, {3}}},
		{func(h *hoard.Hoard) api.Errno { return h.Create(9, []int{0, 1, 2, 2}) }, api.OK, 1, 5, [][]int{{3}}},
		{func(h *hoard.Hoard) api.Errno { return h.Create(9, []int{0, 1, 2, 2, 2}) }, api.OK, 0, 6, nil},
		{func(h *hoard.Hoard) api.Errno { return h.Create(9, []int{0, 1, 2, 2, 2, 2}) }, api.ErrFull, 5, 1, [][]int{{0, 1}, {0}, {2}, {3, 3}, {3}}},
		{func(h *hoard.Hoard) api.Errno { return h.Create(9, []int{0, 2}) }, api.OK, 3, 3, [][]int{{2}, {3, 3}, {3}}}, // 0 1 goes
		{func(h *hoard.Hoard) api.Errno { return h.Create(9, []int{3, 3, 3, 3}) }, api.OK, 1, 5, [][]int{{2}}},
		{func(h *hoard.Hoard) api.Errno { return h.Create(9, []int{3, 2, 2, 2}) }, api.OK, 1, 5, [][]int{{3, 3}}},
		{func(h *hoard.Hoard) api.Errno { return h.Append(4, []int{1}) }, api.OK, 4, 2, [][]int{{0}, {2}, {3, 3}, {3}}},
		{func(h *hoard.Hoard) api.Errno { return h.Append(4, []int{1, 1, 1, 1, 1}) }, api.OK, 0, 6, nil},
		{func(h *hoard.Hoard) api.Errno { return h.Append(4, []int{1, 1, 1, 1, 1, 1}) }, api.ErrFull, 5, 1, [][]int{{0, 1}, {0}, {2}, {3, 3}, {3}}},
		{func(h *hoard.Hoard) api.Errno { _, e := h.Decode(4, 2); return e }, api.OK, 3, 3, [][]int{{2}, {3, 3}, {3}}},
		{func(h *hoard.Hoard) api.Errno { _, e := h.Decode(4, 6); return e }, api.ErrFull, 5, 1, [][]int{{0, 1}, {0}, {2}, {3, 3}, {3}}},
	} {
		build := func() *hoard.Hoard {
			h := full(t)
			if e := c.put(h); e != c.e {
				t.Fatalf("%d, want %d", e, c.e)
			}
			stats(t, h, 0, c.idle, c.used)
			return h
		}
		build()
		for i := range c.yet { // one by one the first goes, and leaves room to ask for the others
			for _, tokens := range c.yet[i+1:] {
				h := build()
				evicted(t, h, i+1, i+1)
				if !there(t, h, tokens) {
					t.Errorf("%v is not there, behind %v", tokens, c.yet[:i+1])
				}
			}
			h := build()
			evicted(t, h, i+1, i+1)
			if there(t, h, c.yet[i]) {
				t.Errorf("%v is there, though it should be the first of %v", c.yet[i], c.yet[i:])
			}
		}
	}
}

func TestP4ATailThatBecomesWholeTakesUpAnIdleBlock(t *testing.T) {
	h := made(t, small)
	create(t, h, 1, []int{0, 1, 2, 3}, api.OK)
	freed(t, h, 1, api.OK)
	create(t, h, 2, []int{0, 1, 2}, api.OK) // a tail knows no idle block
	stats(t, h, 1, 1, 2)
	forked(t, h, 2, 3, api.OK)
	create(t, h, 4, []int{3}, api.OK)
	stats(t, h, 0, 1, 3)
	appended(t, h, 2, []int{3, 3}, api.ErrFull) // the tail is shared, and there is none for the next
	stats(t, h, 0, 1, 3)
	appended(t, h, 3, []int{3}, api.OK)
	stats(t, h, 0, 0, 4)
	appended(t, h, 2, []int{3, 3}, api.OK) // its tail was its own, and is enough for the next
	stats(t, h, 0, 0, 4)
	for id, tokens := range map[int][]int{2: {0, 1, 2, 3, 3}, 3: {0, 1, 2, 3}, 4: {3}} {
		holds(t, h, small, id, tokens)
	}
}

func TestP4ATailOfOnesOwnIsLeftForAnIdleBlock(t *testing.T) {
	h := made(t, small)
	create(t, h, 1, []int{0, 1, 2, 3}, api.OK)
	freed(t, h, 1, api.OK)
	create(t, h, 2, []int{0, 1, 2}, api.OK)
	stats(t, h, 1, 1, 2)
	appended(t, h, 2, []int{3}, api.OK)
	stats(t, h, 2, 0, 2)
	holds(t, h, small, 2, []int{0, 1, 2, 3})
}

// An idle block that is not taken up stays, where the tail that is left is enough.
func TestP4ATailThatIsLeftIsFreeAheadOfIdleBlocks(t *testing.T) {
	h := made(t, small)
	create(t, h, 1, []int{0, 1}, api.OK)
	create(t, h, 2, []int{3, 3}, api.OK)
	freed(t, h, 2, api.OK)
	create(t, h, 3, []int{0}, api.OK)
	create(t, h, 4, []int{2}, api.OK)
	stats(t, h, 0, 1, 3)
	appended(t, h, 3, []int{1, 2}, api.OK)
	stats(t, h, 0, 1, 3)
	appended(t, h, 3, []int{2, 2}, api.OK) // now it must go
	stats(t, h, 0, 0, 4)
	for id, tokens := range map[int][]int{1: {0, 1}, 3: {0, 1, 2, 2, 2}, 4: {2}} {
		holds(t, h, small, id, tokens)
	}
}

// A tail that goes on in its own block needs none, and none goes.
func TestP4ATailThatGoesOnFreesNoIdleBlock(t *testing.T) {
	h := made(t, small)
	create(t, h, 1, []int{3, 3, 3, 3}, api.OK)
	freed(t, h, 1, api.OK)
	create(t, h, 2, []int{0, 1, 2}, api.OK)
	stats(t, h, 0, 2, 2)
	appended(t, h, 2, []int{2}, api.OK)
	stats(t, h, 0, 2, 2)
	appended(t, h, 2, []int{2}, api.OK)
	stats(t, h, 0, 1, 3)
	forked(t, h, 2, 3, api.OK)
	appended(t, h, 3, []int{1}, api.OK) // but one that is shared does
	stats(t, h, 0, 0, 4)
	appended(t, h, 2, []int{1}, api.OK)
	stats(t, h, 1, 0, 3)
	for id := 2; id <= 3; id++ {
		holds(t, h, small, id, []int{0, 1, 2, 2, 2, 1})
	}
}

func TestP1WithAnErrorTheOrderStays(t *testing.T) {
	c := line
	c.Slots = 2
	refuse := func(h *hoard.Hoard) {
		create(t, h, 9, make([]int, 17), api.ErrFull)
		create(t, h, 9, []int{0, 1, 2, 3, 3, 3, 3, 3, 3, 3, 3, 3, 3, 3, 3, 3}, api.ErrFull) // would take up two
		create(t, h, 9, []int{0, 1, 4}, api.ErrToken)
		create(t, h, 9, nil, api.ErrArg)
		create(t, h, 5, []int{0, 1}, api.ErrThere)
		appended(t, h, 5, []int{1, 1, 1, 1, 1, 1, 1, 1, 1, 1, 1, 1, 1, 1, 1, 1, 1}, api.ErrFull)
		appended(t, h, 5, make([]int, 40), api.ErrLong)
		appended(t, h, 9, []int{0}, api.ErrNone)
		decode(t, h, 5, 17, nil, api.ErrFull)
		decode(t, h, 5, 40, nil, api.ErrLong)
		decode(t, h, 5, -1, nil, api.ErrArg)
		decode(t, h, 9, 1, nil, api.ErrNone)
		forked(t, h, 9, 8, api.ErrNone)
		forked(t, h, 5, 5, api.ErrThere)
		freed(t, h, 9, api.ErrNone)
		evicted(t, h, 0, 0)
	}
	goIn(t, func() *hoard.Hoard {
		h := made(t, c)
		create(t, h, 1, []int{0, 1, 2, 3}, api.OK)
		create(t, h, 2, []int{3, 3}, api.OK)
		create(t, h, 5, []int{1}, api.OK)
		freed(t, h, 1, api.OK)
		freed(t, h, 2, api.OK)
		for range 2 {
			refuse(h)
			stats(t, h, 4, 3, 1)
			holds(t, h, c, 5, []int{1})
		}
		return h
	}, []int{0, 1, 2, 3}, []int{0, 1}, []int{3, 3})
}

func TestP8WhatWasEvictedIsToldTheSame(t *testing.T) {
	c := greatest
	c.Slots = 3
	tokens := []int{11, 3, 5, 7, 1, 0, 2, 9, 4, 10, 8, 6}
	for gone := 0; gone <= 4; gone++ {
		h := made(t, c)
		create(t, h, 1, tokens, api.OK)
		freed(t, h, 1, api.OK)
		evicted(t, h, gone, gone)
		create(t, h, 2, tokens[:7], api.OK)
		appended(t, h, 2, tokens[7:], api.OK)
		holds(t, h, c, 2, tokens)
		next := goneOn(c, tokens, 2)
		decode(t, h, 2, 2, next, api.OK)
		holds(t, h, c, 2, append(append([]int{}, tokens...), next...))
	}
}

func TestP3AllBlocksAreFreeAtFirst(t *testing.T) {
	for blocks := 1; blocks <= api.MaxBlocks; blocks++ {
		c := least
		c.Blocks = blocks
		h := made(t, c)
		stats(t, h, blocks, 0, 0)
		evicted(t, h, api.MaxBlocks, 0)
		stats(t, h, blocks, 0, 0)
	}
}
