package hoard_test

import (
	"math"
	"math/rand"
	"slices"
	"testing"

	"hoard/api"
	"hoard/hoard"
)

func decode(t *testing.T, h *hoard.Hoard, id, n int, want []int, e api.Errno) {
	t.Helper()
	if got, f := h.Decode(id, n); f != e || !slices.Equal(got, want) || (got == nil) != (e != api.OK) {
		t.Fatalf("Decode(%d, %d) = %v, %d, want %v, %d", id, n, got, f, want, e)
	}
}

// goneOn is what comes behind the tokens: n times the first of the greatest logits of the reference.
func goneOn(c api.Config, tokens []int, n int) []int {
	all := slices.Clone(tokens)
	for range n {
		best := 0
		for token, logit := range reckon(c, all).logits {
			if logit > reckon(c, all).logits[best] {
				best = token
			}
		}
		all = append(all, best)
	}
	return all[len(tokens):]
}

func TestP5DecodeAgainstTheReference(t *testing.T) {
	r := rand.New(rand.NewSource(8))
	for range 150 {
		c := api.Config{Blocks: 32, Slots: 1 + r.Intn(4), Layers: 1 + r.Intn(2), Heads: 1 + r.Intn(2), Pairs: 1 + r.Intn(2), Vocab: 2 + r.Intn(11), Seed: int(r.Uint64())}
		h := made(t, c)
		tokens := randomTokens(r, 1+r.Intn(6), c.Vocab)
		want := goneOn(c, tokens, 6)
		for id := 1; id <= 2; id++ {
			create(t, h, id, tokens, api.OK)
		}
		decode(t, h, 1, 6, want, api.OK)
		holds(t, h, c, 1, slices.Concat(tokens, want))
		for i := range want { // one by one it is the same
			decode(t, h, 2, 1, want[i:i+1], api.OK)
			holds(t, h, c, 2, slices.Concat(tokens, want[:i+1]))
		}
	}
}

// Fixed tokens, so that an error that the program and the reference had in common would be seen.
func TestP5DecodeGivesTheKnownTokens(t *testing.T) {
	h := made(t, api.Config{Blocks: 8, Slots: 2, Layers: 1, Heads: 1, Pairs: 1, Vocab: 4})
	create(t, h, 1, []int{0, 1, 2}, api.OK)
	decode(t, h, 1, 6, []int{3, 1, 3, 1, 3, 1}, api.OK)
}

// tied gives a config and tokens behind which several tokens have the greatest logit.
func tied(t *testing.T) (api.Config, []int) {
	t.Helper()
	c := small
	c.Vocab = api.MaxVocab
	for c.Seed = range 1000 {
		for token := range c.Vocab {
			l := reckon(c, []int{token}).logits
			if first := slices.Index(l, slices.Max(l)); slices.Contains(l[first+1:], l[first]) {
				return c, []int{token}
			}
		}
	}
	t.Fatal("no two logits are the greatest")
	return c, nil
}

func TestP5TheNextTokenIsTheLeastOfSeveral(t *testing.T) {
	c, tokens := tied(t)
	h := made(t, c)
	create(t, h, 1, tokens, api.OK)
	l, _ := h.Logits(1)
	decode(t, h, 1, 1, []int{slices.Index(l, slices.Max(l))}, api.OK)
}

func TestP5DecodeErrors(t *testing.T) {
	c := api.Config{Blocks: 11, Slots: 4, Layers: 1, Heads: 1, Pairs: 1, Vocab: 4}
	h := made(t, c)
	create(t, h, 1, make([]int, 36), api.OK)
	create(t, h, 2, []int{3, 3, 3}, api.OK)
	create(t, h, 3, []int{2, 3, 3}, api.OK) // all eleven in use
	for _, c := range []struct {
		id, n int
		e     api.Errno
	}{
		{4, 0, api.ErrNone},
		{4, 1, api.ErrNone},
		{4, -1, api.ErrNone},
		{math.MinInt, math.MinInt, api.ErrNone},
		{math.MaxInt, math.MaxInt, api.ErrNone},
		{1, -1, api.ErrArg},
		{1, math.MinInt, api.ErrArg},
		{2, -38, api.ErrArg},
		{1, 5, api.ErrLong}, // and full
		{1, 41, api.ErrLong},
		{1, math.MaxInt, api.ErrLong},
		{1, math.MaxInt - 35, api.ErrLong},
		{2, 38, api.ErrLong},
		{1, 1, api.ErrFull},
		{1, 4, api.ErrFull},
		{2, 2, api.ErrFull},
		{2, 37, api.ErrFull}, // up to MaxLength
		{1, 0, api.OK},
		{2, 0, api.OK},
	} {
		decode(t, h, c.id, c.n, nil, c.e)
	}
	decode(t, h, 2, 1, goneOn(c, []int{3, 3, 3}, 1), api.OK)
	decode(t, h, 2, 1, nil, api.ErrFull)
	decode(t, h, 2, 0, nil, api.OK)
	decode(t, h, 2, 37, nil, api.ErrLong)
}

func TestP5DecodeUpToMaxLength(t *testing.T) {
	tokens := randomTokens(rand.New(rand.NewSource(9)), 34, greatest.Vocab)
	h := made(t, greatest)
	create(t, h, 1, tokens, api.OK)
	decode(t, h, 1, 7, nil, api.ErrLong)
	want := goneOn(greatest, tokens, 6)
	decode(t, h, 1, 6, want, api.OK)
	decode(t, h, 1, 1, nil, api.ErrLong)
	decode(t, h, 1, 0, nil, api.OK)
	holds(t, h, greatest, 1, slices.Concat(tokens, want))
}

func TestP5DecodeIsFullForAllAtOnce(t *testing.T) {
	h := made(t, small)
	create(t, h, 1, []int{0, 1, 2}, api.OK)
	create(t, h, 2, []int{0}, api.OK) // one is free
	want := goneOn(small, []int{0, 1, 2}, 3)
	for n := 4; n <= 37; n++ {
		decode(t, h, 1, n, nil, api.ErrFull)
		holds(t, h, small, 1, []int{0, 1, 2})
	}
	decode(t, h, 1, 3, want, api.OK)
	holds(t, h, small, 1, append([]int{0, 1, 2}, want...))
	holds(t, h, small, 2, []int{0})
	hasFree(t, h, 0)
}

func TestP5DecodeTakesUpBlocksThatThereAre(t *testing.T) {
	c := small
	c.Blocks = 6
	h := made(t, c)
	tokens := []int{0, 1, 2}
	want := goneOn(c, tokens, 6)
	create(t, h, 1, tokens, api.OK)
	create(t, h, 2, tokens, api.OK)
	decode(t, h, 1, 6, want, api.OK) // {0 1} {2 .} .. {.} and the tail of 2: all six in use
	create(t, h, 3, []int{3}, api.ErrFull)
	decode(t, h, 2, 6, want, api.OK) // the tail that it leaves is enough for the one behind
	for id := 1; id <= 2; id++ {
		holds(t, h, c, id, slices.Concat(tokens, want))
	}
	create(t, h, 3, []int{3}, api.ErrFull)
	appended(t, h, 1, []int{0}, api.OK)
	appended(t, h, 2, []int{0}, api.OK)
	hasFree(t, h, 1)
}

func TestP5WhatIsDecodedHangsOnTheTokensAlone(t *testing.T) {
	tokens := randomTokens(rand.New(rand.NewSource(10)), 7, greatest.Vocab)
	want := goneOn(greatest, tokens, 12)
	for slots := 1; slots <= api.MaxSlots; slots++ {
		for blocks := (19 + slots - 1) / slots; blocks <= api.MaxBlocks; blocks += 3 {
			c := greatest
			c.Slots, c.Blocks = slots, blocks
			h := made(t, c)
			create(t, h, 1, tokens[:3], api.OK)
			appended(t, h, 1, tokens[3:], api.OK)
			decode(t, h, 1, 5, want[:5], api.OK)
			decode(t, h, 1, 0, nil, api.OK)
			decode(t, h, 1, 7, want[5:], api.OK)
			holds(t, h, c, 1, slices.Concat(tokens, want))
		}
	}
}

func TestP2WhatDecodeGivesIsNewMemory(t *testing.T) {
	h := made(t, greatest)
	tokens := []int{1, 2, 3, 4, 5}
	create(t, h, 1, tokens, api.OK)
	for _, n := range []int{0, 1, 3, 6} {
		want := goneOn(greatest, tokens, n)
		l, e := h.Decode(1, n)
		if e != api.OK || !slices.Equal(l, want) {
			t.Errorf("Decode(1, %d) = %v, %d, want %v", n, l, e, want)
		}
		scribble(l)
		tokens = append(tokens, want...)
		holds(t, h, greatest, 1, tokens)
	}
	create(t, h, 2, tokens, api.OK)
	holds(t, h, greatest, 2, tokens)
}

func TestP2DecodingInOneHoardLeavesTheOtherAlone(t *testing.T) {
	one, other := made(t, small), made(t, small)
	for _, h := range []*hoard.Hoard{one, other} {
		create(t, h, 1, []int{0, 1, 2}, api.OK)
	}
	decode(t, one, 1, 5, goneOn(small, []int{0, 1, 2}, 5), api.OK)
	appended(t, one, 1, []int{0}, api.ErrFull)
	holds(t, other, small, 1, []int{0, 1, 2})
	hasFree(t, other, 2)
}
