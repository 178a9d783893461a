package hoard_test

import (
	"math"
	"math/rand"
	"slices"
	"testing"

	"hoard/api"
	"hoard/hoard"
)

func appended(t *testing.T, h *hoard.Hoard, id int, tokens []int, want api.Errno) {
	t.Helper()
	if e := h.Append(id, tokens); e != want {
		t.Fatalf("Append(%d, %v) = %d, want %d", id, tokens, e, want)
	}
}

// hasFree tells by tails of one token whether just so many blocks are free; the hoard can't be used behind it.
func hasFree(t *testing.T, h *hoard.Hoard, want int) {
	t.Helper()
	for i := range want {
		create(t, h, 1000+i, []int{0}, api.OK)
	}
	create(t, h, 1000+want, []int{0}, api.ErrFull)
}

func TestP4AppendErrors(t *testing.T) {
	h := made(t, api.Config{Blocks: 10, Slots: 4, Layers: 1, Heads: 1, Pairs: 1, Vocab: 4})
	zeros := func(n int, last ...int) []int { return append(make([]int, n), last...) }
	create(t, h, 1, zeros(35), api.OK) // nine of ten blocks
	create(t, h, 2, []int{3, 3, 3}, api.OK)
	for _, c := range []struct {
		id     int
		tokens []int
		e      api.Errno
	}{
		{3, nil, api.ErrNone},
		{0, []int{}, api.ErrNone},
		{math.MinInt, []int{0}, api.ErrNone},
		{math.MaxInt, []int{4}, api.ErrNone},
		{-1, zeros(41), api.ErrNone},
		{1, []int{-1}, api.ErrToken},
		{1, []int{4}, api.ErrToken},
		{1, []int{0, 0, math.MaxInt}, api.ErrToken},
		{1, []int{math.MinInt, 0, 0}, api.ErrToken},
		{1, zeros(5, 4), api.ErrToken}, // and too long
		{1, zeros(5000, -1), api.ErrToken},
		{1, zeros(6), api.ErrLong},
		{1, zeros(40), api.ErrLong},
		{1, zeros(5000), api.ErrLong},
		{2, zeros(38), api.ErrLong}, // and full
		{1, zeros(5), api.ErrFull},  // a tenth block of its own
		{1, zeros(2), api.ErrFull},  // and with just one token in it
		{2, zeros(2), api.ErrFull},
		{2, zeros(37), api.ErrFull}, // up to MaxLength
		{2, zeros(1, 4), api.ErrToken},
		{1, nil, api.OK},
		{1, []int{}, api.OK},
		{2, nil, api.OK},
		{1, []int{0}, api.OK}, // whole now
		{1, []int{0}, api.ErrFull},
		{1, nil, api.OK},
		{2, []int{3}, api.OK}, // whole now
		{2, []int{3}, api.ErrFull},
		{2, []int{4}, api.ErrToken},
		{2, nil, api.OK},
	} {
		appended(t, h, c.id, c.tokens, c.e)
	}
	holds(t, h, api.Config{Layers: 1, Heads: 1, Pairs: 1, Vocab: 4}, 1, zeros(36))
	holds(t, h, api.Config{Layers: 1, Heads: 1, Pairs: 1, Vocab: 4}, 2, []int{3, 3, 3, 3})
}

func TestP4AppendUpToMaxLength(t *testing.T) {
	tokens := randomTokens(rand.New(rand.NewSource(6)), api.MaxLength+1, greatest.Vocab)
	for _, first := range []int{1, 2, 35, 38, 39, 40} {
		h := made(t, greatest)
		create(t, h, 1, tokens[:first], api.OK)
		appended(t, h, 1, tokens[first:], api.ErrLong)
		holds(t, h, greatest, 1, tokens[:first])
		appended(t, h, 1, tokens[first:api.MaxLength], api.OK)
		holds(t, h, greatest, 1, tokens[:api.MaxLength])
		appended(t, h, 1, tokens[:1], api.ErrLong)
		appended(t, h, 1, []int{-1}, api.ErrToken)
		appended(t, h, 1, nil, api.OK)
		holds(t, h, greatest, 1, tokens[:api.MaxLength])
	}
}

func TestP4AppendPieceByPieceIsAsCreate(t *testing.T) {
	r := rand.New(rand.NewSource(7))
	for range 200 {
		c := api.Config{Blocks: 32, Slots: 1 + r.Intn(4), Layers: 1 + r.Intn(2), Heads: 1 + r.Intn(2), Pairs: 1 + r.Intn(2), Vocab: 2 + r.Intn(11), Seed: int(r.Uint64())}
		h := made(t, c)
		tokens := randomTokens(r, 12, c.Vocab)
		have := 1 + r.Intn(5)
		create(t, h, 1, tokens[:have], api.OK)
		for have < len(tokens) {
			more := min(r.Intn(7), len(tokens)-have)
			appended(t, h, 1, tokens[have:have+more], api.OK)
			have += more
			holds(t, h, c, 1, tokens[:have])
		}
	}
}

func TestP4ATailGoesOnInItsBlock(t *testing.T) {
	c := small
	c.Blocks, c.Slots = 1, 4
	h := made(t, c)
	create(t, h, 1, []int{3}, api.OK)
	appended(t, h, 1, []int{2, 1, 0, 3}, api.ErrFull) // the fifth is too many
	holds(t, h, c, 1, []int{3})
	appended(t, h, 1, []int{2}, api.OK)
	appended(t, h, 1, []int{1, 0}, api.OK)
	holds(t, h, c, 1, []int{3, 2, 1, 0})
	appended(t, h, 1, []int{3}, api.ErrFull)
	create(t, h, 2, []int{3, 2, 1, 0}, api.OK) // what became whole is found
	create(t, h, 3, []int{3, 2, 1}, api.ErrFull)
	holds(t, h, c, 2, []int{3, 2, 1, 0})
}

// As in the document's first example, but that the tails are not made by forking.
func TestP4ATailThatBecomesWholeAsAnotherBlockIsThatOne(t *testing.T) {
	h := made(t, small)
	create(t, h, 1, []int{0, 1, 2}, api.OK)
	create(t, h, 5, []int{0, 1, 2}, api.OK)
	create(t, h, 2, []int{0, 1, 3}, api.OK) // all four in use
	appended(t, h, 5, []int{2}, api.OK)
	create(t, h, 9, []int{1}, api.ErrFull)
	appended(t, h, 1, []int{2}, api.OK) // the tail's own is free
	for id, tokens := range map[int][]int{1: {0, 1, 2, 2}, 5: {0, 1, 2, 2}, 2: {0, 1, 3}} {
		holds(t, h, small, id, tokens)
	}
	hasFree(t, h, 1)
}

func TestP4ATailThatIsLeftIsFreeAheadOfWhatIsNeededAnew(t *testing.T) {
	h := made(t, small)
	create(t, h, 1, []int{0, 1, 2, 3}, api.OK)
	create(t, h, 2, []int{0, 1, 2}, api.OK)
	create(t, h, 3, []int{3}, api.OK) // all four in use
	appended(t, h, 2, []int{3, 0, 0, 0}, api.ErrFull)
	appended(t, h, 2, []int{2, 0}, api.ErrFull) // it stays its own, and there is none for the next
	holds(t, h, small, 2, []int{0, 1, 2})
	appended(t, h, 2, []int{3, 0}, api.OK)
	appended(t, h, 2, []int{0}, api.OK)
	for id, tokens := range map[int][]int{1: {0, 1, 2, 3}, 2: {0, 1, 2, 3, 0, 0}, 3: {3}} {
		holds(t, h, small, id, tokens)
	}
	hasFree(t, h, 0)
}

func TestP4AppendTakesUpSeveralBlocksThatThereAre(t *testing.T) {
	c := small
	c.Blocks = 5
	h := made(t, c)
	tokens := []int{0, 1, 2, 3, 3, 2, 1, 0}
	create(t, h, 1, tokens, api.OK)
	create(t, h, 2, tokens[:1], api.OK) // all five in use
	appended(t, h, 2, append(slices.Clone(tokens[1:]), 1, 1, 1), api.ErrFull)
	holds(t, h, c, 2, tokens[:1])
	appended(t, h, 2, tokens[1:], api.OK)
	holds(t, h, c, 2, tokens)
	hasFree(t, h, 1)
}

// The same tokens behind others are not the same block.
func TestP4AWholeBlockIsToldByAllTokensUpToItsEnd(t *testing.T) {
	h := made(t, small)
	create(t, h, 1, []int{0, 1, 2, 3}, api.OK)
	create(t, h, 2, []int{1, 0, 2}, api.OK)
	appended(t, h, 2, []int{3}, api.OK)
	holds(t, h, small, 2, []int{1, 0, 2, 3})
	hasFree(t, h, 0)
}

func TestP4AppendToOneLeavesTheOthersAlone(t *testing.T) {
	for slots := 1; slots <= api.MaxSlots; slots++ {
		c := small
		c.Slots, c.Blocks = slots, 32
		h := made(t, c)
		all := map[int][]int{}
		for id := range 4 {
			all[id] = []int{0, 1, 2, 3, 0}
			create(t, h, id, all[id], api.OK)
		}
		for step := range 4 {
			for id := range 4 {
				more := []int{(step * id) % 4, step % 4}[:1+id%2]
				appended(t, h, id, more, api.OK)
				all[id] = append(all[id], more...)
				for other, tokens := range all {
					holds(t, h, c, other, tokens)
				}
			}
		}
	}
}

func TestP1WhatAppendRefusesChangesNothing(t *testing.T) {
	h := made(t, small)
	create(t, h, 1, []int{0, 1, 2, 3}, api.OK)
	create(t, h, 2, []int{0, 1, 2}, api.OK)
	for range 3 {
		appended(t, h, 3, []int{1}, api.ErrNone)
		appended(t, h, 2, []int{3, 3, 4}, api.ErrToken)
		appended(t, h, 2, make([]int, 38), api.ErrLong)
		appended(t, h, 2, []int{3, 0, 0, 0, 0, 0}, api.ErrFull) // it would leave its tail for a block of 1
		appended(t, h, 1, []int{3, 3, 3}, api.ErrFull)
		isNone(t, h, 3)
		holds(t, h, small, 1, []int{0, 1, 2, 3})
		holds(t, h, small, 2, []int{0, 1, 2})
	}
	hasFree(t, h, 1)
}

func TestP2WhatIsAppendedIsNeitherWrittenNorKept(t *testing.T) {
	h := made(t, small)
	room := []int{0, 3, 1, 2, 8, 9}
	create(t, h, 1, room[:1], api.OK)
	for _, c := range []struct {
		from, to int
		e        api.Errno
	}{{1, 2, api.OK}, {2, 4, api.OK}, {2, 5, api.ErrToken}, {1, 1, api.OK}} {
		appended(t, h, 1, room[c.from:c.to], c.e)
		if !slices.Equal(room, []int{0, 3, 1, 2, 8, 9}) {
			t.Errorf("Append made %v of what it was given", room)
		}
	}
	for i := range room {
		room[i] = 2
	}
	holds(t, h, small, 1, []int{0, 3, 1, 2})
	create(t, h, 2, []int{0, 3, 1, 2}, api.OK) // no block is told by what the caller wrote
	create(t, h, 3, []int{2, 2}, api.OK)
	hasFree(t, h, 1)
}

func TestP2WhatCameOutAheadOfAppendIsTheCallers(t *testing.T) {
	c := greatest
	h := made(t, c)
	create(t, h, 1, []int{1, 2, 3}, api.OK)
	l, _ := h.Tokens(1)
	k, v, _ := h.Kept(1, 0, 1)
	before := slices.Concat(l, k, v)
	appended(t, h, 1, []int{4, 5, 6}, api.OK)
	if !slices.Equal(slices.Concat(l, k, v), before) {
		t.Errorf("Append wrote into what came out: %v, %v, %v", l, k, v)
	}
	scribble(l, k, v)
	appended(t, h, 1, []int{7}, api.OK)
	holds(t, h, c, 1, []int{1, 2, 3, 4, 5, 6, 7})
}
