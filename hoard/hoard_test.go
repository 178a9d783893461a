package hoard_test

import (
	"math"
	"math/rand"
	"slices"
	"testing"

	"hoard/api"
	"hoard/hoard"
)

var (
	least    = api.Config{Blocks: 1, Slots: 1, Layers: 1, Heads: 1, Pairs: 1, Vocab: 2, Seed: math.MinInt}
	greatest = api.Config{Blocks: 32, Slots: 4, Layers: 2, Heads: 2, Pairs: 2, Vocab: 12, Seed: math.MaxInt}
	small    = api.Config{Blocks: 4, Slots: 2, Layers: 1, Heads: 1, Pairs: 1, Vocab: 4}
)

func made(t *testing.T, c api.Config) *hoard.Hoard {
	t.Helper()
	h, e := hoard.New(c)
	if h == nil || e != api.OK {
		t.Fatalf("New(%+v) = %v, %d", c, h != nil, e)
	}
	return h
}

func create(t *testing.T, h *hoard.Hoard, id int, tokens []int, want api.Errno) {
	t.Helper()
	if e := h.Create(id, tokens); e != want {
		t.Fatalf("Create(%d, %v) = %d, want %d", id, tokens, e, want)
	}
}

// holds tells whether all that is told of a sequence is what the reference reckons.
func holds(t *testing.T, h *hoard.Hoard, c api.Config, id int, tokens []int) {
	t.Helper()
	r := reckon(c, tokens)
	if got, e := h.Tokens(id); e != api.OK || !slices.Equal(got, tokens) {
		t.Errorf("Tokens(%d) = %v, %d, want %v", id, got, e, tokens)
	}
	if got, e := h.Logits(id); e != api.OK || !slices.Equal(got, r.logits) {
		t.Errorf("%+v: Logits behind %v = %v, %d, want %v", c, tokens, got, e, r.logits)
	}
	for p := range tokens {
		for layer := range c.Layers {
			k, v, e := h.Kept(id, layer, p)
			if want := r.kept[p][layer]; e != api.OK || !slices.Equal(k, want[0]) || !slices.Equal(v, want[1]) {
				t.Errorf("%+v: Kept(%d, %d, %d) of %v = %v, %v, %d, want %v", c, id, layer, p, tokens, k, v, e, want)
			}
		}
	}
}

func isNone(t *testing.T, h *hoard.Hoard, id int) {
	t.Helper()
	l, e := h.Tokens(id)
	m, f := h.Logits(id)
	k, v, g := h.Kept(id, -1, -1)
	if l != nil || m != nil || k != nil || v != nil || e != api.ErrNone || f != api.ErrNone || g != api.ErrNone {
		t.Errorf("of %d, which is none: %v, %d; %v, %d; %v, %v, %d", id, l, e, m, f, k, v, g)
	}
}

func randomTokens(r *rand.Rand, n, vocab int) []int {
	out := make([]int, n)
	for i := range out {
		out[i] = r.Intn(vocab)
	}
	return out
}

func TestP3New(t *testing.T) {
	fields := []struct {
		name        string
		of          func(c *api.Config) *int
		least, most int
	}{
		{"Blocks", func(c *api.Config) *int { return &c.Blocks }, 1, api.MaxBlocks},
		{"Slots", func(c *api.Config) *int { return &c.Slots }, 1, api.MaxSlots},
		{"Layers", func(c *api.Config) *int { return &c.Layers }, 1, api.MaxLayers},
		{"Heads", func(c *api.Config) *int { return &c.Heads }, 1, api.MaxHeads},
		{"Pairs", func(c *api.Config) *int { return &c.Pairs }, 1, api.MaxPairs},
		{"Vocab", func(c *api.Config) *int { return &c.Vocab }, 2, api.MaxVocab},
		{"Seed", func(c *api.Config) *int { return &c.Seed }, math.MinInt, math.MaxInt},
	}
	for _, f := range fields {
		for _, base := range []api.Config{least, greatest} {
			for _, n := range []int{math.MinInt, -1, 0, 1, 2, f.least - 1, f.least, f.most, f.most + 1, math.MaxInt} {
				c := base
				*f.of(&c) = n
				want := api.OK
				if n < f.least || n > f.most {
					want = api.ErrArg
				}
				if h, e := hoard.New(c); e != want || (h != nil) != (want == api.OK) {
					t.Errorf("New with %s %d = %v, %d, want %d", f.name, n, h != nil, e, want)
				}
			}
		}
	}
	if h, e := hoard.New(api.Config{}); h != nil || e != api.ErrArg {
		t.Errorf("New of nothing = %v, %d", h != nil, e)
	}
}

func TestP3AHoardHasNoSequencesAndAllBlocksFree(t *testing.T) {
	for blocks := 1; blocks <= api.MaxSequences-1; blocks++ {
		c := least
		c.Blocks, c.Slots = blocks, 2
		h := made(t, c)
		for id := range blocks {
			isNone(t, h, id)
			create(t, h, id, []int{1}, api.OK)
		}
		create(t, h, blocks, []int{1}, api.ErrFull)
	}
}

func TestDecoderAgainstTheReference(t *testing.T) {
	r := rand.New(rand.NewSource(1))
	for range 400 {
		c := api.Config{Blocks: 32, Slots: 2 + r.Intn(3), Layers: 1 + r.Intn(2), Heads: 1 + r.Intn(2), Pairs: 1 + r.Intn(2), Vocab: 2 + r.Intn(11), Seed: int(r.Uint64())}
		h := made(t, c)
		tokens := randomTokens(r, 1+r.Intn(12), c.Vocab)
		create(t, h, 0, tokens, api.OK)
		holds(t, h, c, 0, tokens)
	}
}

func TestDecoderAtTheEdges(t *testing.T) {
	r := rand.New(rand.NewSource(2))
	for _, seed := range []int{0, 1, -1, math.MinInt, math.MaxInt} {
		c := greatest
		c.Seed = seed
		h := made(t, c)
		for id, tokens := range [][]int{randomTokens(r, api.MaxLength, c.Vocab), {0}, {c.Vocab - 1}, make([]int, api.MaxLength)} {
			create(t, h, id, tokens, api.OK)
			holds(t, h, c, id, tokens)
		}
		c = least
		c.Seed = seed
		for token := range c.Vocab {
			h = made(t, c)
			create(t, h, 0, []int{token}, api.OK)
			holds(t, h, c, 0, []int{token})
		}
	}
}

// Fixed numbers, so that an error that the program and the reference had in common would be seen.
func TestDecoderGivesTheKnownNumbers(t *testing.T) {
	h := made(t, api.Config{Blocks: 8, Slots: 2, Layers: 1, Heads: 1, Pairs: 1, Vocab: 4})
	create(t, h, 1, []int{0, 1, 2}, api.OK)
	l, _ := h.Logits(1)
	k, v, _ := h.Kept(1, 0, 2)
	if !slices.Equal(l, []int{-386, -29, -57, 16}) || !slices.Equal(k, []int{134, 52}) || !slices.Equal(v, []int{111, 379}) {
		t.Errorf("logits %v, k %v, v %v", l, k, v)
	}
}

func TestP4CreateErrors(t *testing.T) {
	h := made(t, api.Config{Blocks: 10, Slots: 4, Layers: 1, Heads: 1, Pairs: 1, Vocab: 4})
	long := func(n int, last ...int) []int { return append(make([]int, n), last...) }
	for _, c := range []struct {
		id     int
		tokens []int
		e      api.Errno
	}{
		{1, nil, api.ErrArg},
		{1, []int{}, api.ErrArg},
		{1, []int{-1}, api.ErrToken},
		{1, []int{4}, api.ErrToken},
		{1, []int{0, 1, 2, 3, math.MinInt}, api.ErrToken},
		{1, []int{math.MaxInt, 0}, api.ErrToken},
		{1, long(40, 4), api.ErrToken}, // and too long
		{1, long(5000, -1), api.ErrToken},
		{1, long(41), api.ErrLong},
		{1, long(5000), api.ErrLong},
		{1, long(37), api.OK}, // all ten blocks
		{1, long(37), api.ErrThere},
		{1, nil, api.ErrThere},
		{1, []int{-1}, api.ErrThere},
		{1, long(41), api.ErrThere},
		{1, []int{3}, api.ErrThere},
		{2, nil, api.ErrArg},
		{2, []int{4}, api.ErrToken}, // and full
		{2, long(41), api.ErrLong},  // and full
		{2, long(40), api.ErrFull},  // its last block is not there
		{2, long(37), api.ErrFull},  // a tail is its own
		{2, long(36), api.OK},       // all blocks are shared
		{3, []int{3}, api.ErrFull},
		{3, []int{0}, api.ErrFull},
		{math.MinInt, long(4), api.OK},
		{math.MaxInt, long(8), api.OK},
		{-1, long(4), api.OK},
		{0, long(4), api.OK},
		{3, long(4), api.OK},
		{4, long(4), api.OK}, // the eighth
		{5, long(4), api.ErrArg},
		{5, nil, api.ErrArg},
		{5, []int{4}, api.ErrArg},
		{5, long(41), api.ErrArg},
		{5, []int{3}, api.ErrArg},
		{math.MinInt, []int{3}, api.ErrThere}, // ahead of: there are MaxSequences
		{4, nil, api.ErrThere},
	} {
		create(t, h, c.id, c.tokens, c.e)
	}
}

func TestP4AnyIdIsOne(t *testing.T) {
	h := made(t, greatest)
	ids := []int{math.MinInt, math.MinInt + 1, -1, 0, 1, 1 << 32, math.MaxInt - 1, math.MaxInt}
	for i, id := range ids {
		create(t, h, id, []int{i, i}, api.OK)
	}
	for i, id := range ids {
		holds(t, h, greatest, id, []int{i, i})
	}
	isNone(t, h, 2)
}

func TestP4MaxLength(t *testing.T) {
	h := made(t, greatest)
	tokens := randomTokens(rand.New(rand.NewSource(3)), api.MaxLength, greatest.Vocab)
	create(t, h, 1, append(slices.Clone(tokens), 0), api.ErrLong)
	isNone(t, h, 1)
	create(t, h, 1, tokens, api.OK)
	holds(t, h, greatest, 1, tokens)
}

// The document's first example, as far as Create goes.
func TestP4BlocksAreSharedFromTheBeginning(t *testing.T) {
	h := made(t, small)
	create(t, h, 1, []int{0, 1, 2}, api.OK)
	create(t, h, 2, []int{0, 1, 3}, api.OK) // one anew: three in use
	create(t, h, 3, []int{1, 1, 3}, api.ErrFull)
	create(t, h, 3, []int{2, 3, 0, 1}, api.ErrFull) // the same tokens elsewhere are another block
	create(t, h, 3, []int{0, 1, 0, 1, 0}, api.ErrFull)
	create(t, h, 3, []int{0, 1, 0, 1}, api.OK) // all four in use
	create(t, h, 4, []int{0, 1, 2}, api.ErrFull)
	create(t, h, 4, []int{1, 0}, api.ErrFull)
	create(t, h, 4, []int{0}, api.ErrFull)
	create(t, h, 4, []int{0, 1, 0, 1}, api.OK)
	create(t, h, 5, []int{0, 1}, api.OK)
	for id, tokens := range map[int][]int{1: {0, 1, 2}, 2: {0, 1, 3}, 3: {0, 1, 0, 1}, 4: {0, 1, 0, 1}, 5: {0, 1}} {
		holds(t, h, small, id, tokens)
	}
}

func TestP4OneSlotSharesAll(t *testing.T) {
	c := small
	c.Slots = 1
	h := made(t, c)
	create(t, h, 1, []int{0, 1, 2, 3, 0}, api.ErrFull)
	create(t, h, 1, []int{0, 1, 2, 3}, api.OK)
	create(t, h, 2, []int{0, 1, 2, 3}, api.OK)
	create(t, h, 3, []int{0}, api.OK)
	create(t, h, 4, []int{1}, api.ErrFull)
	create(t, h, 4, []int{0, 2}, api.ErrFull)
}

// used counts the blocks of all sequences: whole ones by all tokens up to their end, and tails.
func used(slots int, all map[int][]int) int {
	whole, tails := map[string]int{}, 0
	for _, tokens := range all {
		text := ""
		for i, token := range tokens {
			text += string(rune('a' + token))
			if (i+1)%slots == 0 {
				whole[text]++
			}
		}
		if len(tokens)%slots != 0 {
			tails++
		}
	}
	return len(whole) + tails
}

func TestP4CreateIsFullJustWhenTheBlocksAreNotEnough(t *testing.T) {
	r := rand.New(rand.NewSource(4))
	for range 300 {
		c := api.Config{Blocks: 1 + r.Intn(12), Slots: 1 + r.Intn(4), Layers: 1, Heads: 1, Pairs: 1, Vocab: 2, Seed: r.Int()}
		h, all := made(t, c), map[int][]int{}
		for id := range 30 {
			tokens := randomTokens(r, 1+r.Intn(8), c.Vocab)
			all[id] = tokens
			want := api.OK
			if len(all) > api.MaxSequences {
				want = api.ErrArg
			} else if used(c.Slots, all) > c.Blocks {
				want = api.ErrFull
			}
			create(t, h, id, tokens, want)
			if want != api.OK {
				delete(all, id)
				isNone(t, h, id)
			}
		}
		for id, tokens := range all {
			holds(t, h, c, id, tokens)
		}
	}
}

func TestP1WithAnErrorNothingHasChanged(t *testing.T) {
	h := made(t, small)
	create(t, h, 1, []int{0, 1, 2}, api.OK)
	for range 3 {
		create(t, h, 1, []int{3, 3}, api.ErrThere)
		create(t, h, 2, nil, api.ErrArg)
		create(t, h, 2, []int{3, 3, 4}, api.ErrToken)
		create(t, h, 2, make([]int, 41), api.ErrLong)
		create(t, h, 2, []int{3, 3, 3, 3, 3}, api.ErrFull) // three anew, two are free
		isNone(t, h, 2)
		holds(t, h, small, 1, []int{0, 1, 2})
	}
	create(t, h, 2, []int{2, 2, 3}, api.OK)   // both that were free still are
	create(t, h, 3, []int{3, 3}, api.ErrFull) // none was left behind by what was refused
	holds(t, h, small, 2, []int{2, 2, 3})
}

func TestP1NoCallPanics(t *testing.T) {
	odd := []int{math.MinInt, math.MinInt + 1, -41, -1, 0, 1, 2, 3, 4, 39, 40, 41, 1 << 31, 1 << 62, math.MaxInt - 1, math.MaxInt}
	for _, c := range []api.Config{least, greatest, small} {
		h := made(t, c)
		for _, id := range odd {
			for _, n := range odd {
				h.Create(id, []int{n})
				h.Create(id, []int{0, n})
				h.Append(id, []int{n})
				h.Append(id, []int{0, n})
				h.Decode(id, n)
				h.Fork(id, n)
				for _, m := range odd {
					h.Kept(id, n, m)
				}
			}
			h.Create(id, nil)
			h.Append(id, nil)
			h.Tokens(id)
			h.Logits(id)
		}
		for _, n := range odd { // now there are many
			h.Fork(n, n)
			h.Free(n)
			h.Free(n)
			h.Create(n, []int{1, 1, 0})
			h.Evict(n)
			h.Stats()
		}
	}
}

func TestP2WhatIsHandedInIsNeitherWrittenNorKept(t *testing.T) {
	h := made(t, small)
	for _, c := range []struct {
		n int
		e api.Errno
	}{{3, api.OK}, {3, api.ErrThere}, {7, api.ErrThere}} {
		room := []int{0, 3, 1, 7, 8, 9, 10, 11}
		create(t, h, 1, room[:c.n], c.e)
		if !slices.Equal(room, []int{0, 3, 1, 7, 8, 9, 10, 11}) {
			t.Errorf("Create made %v of what it was given", room)
		}
		for i := range room {
			room[i] = 2
		}
		holds(t, h, small, 1, []int{0, 3, 1})
	}
	create(t, h, 2, []int{2, 2}, api.OK) // no block is told by what the caller wrote
	create(t, h, 3, []int{0, 3}, api.OK)
	create(t, h, 4, []int{2, 2, 2, 2, 2}, api.ErrFull)
}

func scribble(lists ...[]int) {
	for _, l := range lists {
		l = l[:cap(l)]
		for i := range l {
			l[i] = -77
		}
	}
}

func TestP2WhatComesOutIsNewMemory(t *testing.T) {
	h := made(t, greatest)
	tokens := []int{1, 2, 3, 4, 5, 6, 7}
	create(t, h, 1, tokens, api.OK)
	create(t, h, 2, tokens, api.OK)
	for range 2 {
		for id := 1; id <= 2; id++ {
			l, _ := h.Tokens(id)
			m, _ := h.Logits(id)
			scribble(l, m)
			for p := range tokens {
				for layer := range greatest.Layers {
					k, v, _ := h.Kept(id, layer, p)
					before := slices.Clone(v)
					scribble(k)
					if !slices.Equal(v, before) {
						t.Errorf("Kept(%d, %d, %d): k and v share memory", id, layer, p)
					}
					scribble(v)
				}
			}
			holds(t, h, greatest, 1, tokens)
			holds(t, h, greatest, 2, tokens)
		}
	}
	create(t, h, 3, tokens, api.OK)
	holds(t, h, greatest, 3, tokens)
}

func TestP2HoardsShareNothing(t *testing.T) {
	c := small
	c.Seed = 99
	one, other, third := made(t, small), made(t, c), made(t, small)
	create(t, one, 1, []int{0, 1, 2, 3, 0, 1, 2}, api.OK)
	create(t, one, 2, []int{3}, api.ErrFull)
	isNone(t, other, 1)
	isNone(t, third, 1)
	create(t, other, 1, []int{0, 1, 2, 3, 0, 1, 2}, api.OK)
	create(t, third, 1, []int{3, 2, 1, 0, 3, 2, 1, 0}, api.OK)
	create(t, third, 2, []int{0, 1}, api.ErrFull)
	holds(t, one, small, 1, []int{0, 1, 2, 3, 0, 1, 2})
	holds(t, other, c, 1, []int{0, 1, 2, 3, 0, 1, 2})
	holds(t, third, small, 1, []int{3, 2, 1, 0, 3, 2, 1, 0})
}

func TestP7KeptErrors(t *testing.T) {
	for _, layers := range []int{1, 2} {
		c := small
		c.Layers = layers
		h := made(t, c)
		create(t, h, 1, []int{0, 1, 2}, api.OK)
		create(t, h, 2, []int{0, 1}, api.OK)
		odd := []int{math.MinInt, -1, 0, 1, 2, 3, 40, math.MaxInt}
		for id, length := range map[int]int{1: 3, 2: 2, 3: 0} {
			for _, layer := range odd {
				for _, p := range odd {
					want := api.OK
					if length == 0 {
						want = api.ErrNone
					} else if layer < 0 || layer >= layers || p < 0 || p >= length {
						want = api.ErrArg
					}
					k, v, e := h.Kept(id, layer, p)
					if e != want || (k != nil) != (e == api.OK) || (v != nil) != (e == api.OK) {
						t.Errorf("Kept(%d, %d, %d) = %v, %v, %d, want %d", id, layer, p, k, v, e, want)
					}
				}
			}
		}
	}
}

func TestP7WhatIsToldHangsOnTheTokensAlone(t *testing.T) {
	tokens := randomTokens(rand.New(rand.NewSource(5)), 20, greatest.Vocab)
	for slots := 1; slots <= api.MaxSlots; slots++ {
		c := greatest
		c.Slots = slots
		h := made(t, c)
		for id := range api.MaxSequences { // each has a beginning of the same tokens
			create(t, h, id, tokens[:10+id], api.OK)
		}
		for id := range api.MaxSequences {
			holds(t, h, c, id, tokens[:10+id])
		}
	}
}
