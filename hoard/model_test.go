package hoard_test

import (
	"maps"
	"math/rand"
	"slices"
	"strconv"
	"testing"

	"hoard/api"
	"hoard/hoard"
)

// model is what the document says of blocks, in names alone: a whole block's name is all tokens up to its end, a tail's a number. Which are in use is gathered from all sequences after each call.
type model struct {
	c     api.Config
	all   map[int][]int // the tokens of each sequence
	tails map[int]int   // the number of each sequence's tail
	idle  []string
	last  int // of the numbers of tails
}

// blocks is the names of a sequence's blocks, from the first one on.
func (m *model) blocks(id int) []string {
	var out []string
	name := ""
	for i, token := range m.all[id] {
		name += string(rune('a' + token))
		if (i+1)%m.c.Slots == 0 {
			out = append(out, name)
		}
	}
	if len(m.all[id])%m.c.Slots != 0 {
		out = append(out, strconv.Itoa(m.tails[id]))
	}
	return out
}

func (m *model) used() map[string]int {
	out := map[string]int{}
	for id := range m.all {
		for _, name := range m.blocks(id) {
			out[name]++
		}
	}
	return out
}

func (m *model) stats() api.Stats {
	used, idle := len(m.used()), len(m.idle)
	return api.Stats{Free: m.c.Blocks - used - idle, Idle: idle, Used: used}
}

// apart tells how many blocks all sequences would have each for itself.
func (m *model) apart() int {
	sum := 0
	for id := range m.all {
		sum += len(m.blocks(id))
	}
	return sum
}

// put does what Create, Append and Decode have in common.
func (m *model) put(id int, more []int) api.Errno {
	if len(more) == 0 {
		return api.OK
	}
	old := *m
	m.all, m.tails = maps.Clone(m.all), maps.Clone(m.tails)
	m.last++
	m.tails[id] = m.last // a token was put into it
	m.all[id] = slices.Concat(m.all[id], more)
	used := m.used()
	m.idle = slices.DeleteFunc(slices.Clone(m.idle), func(name string) bool { return used[name] > 0 })
	e := api.OK
	if len(m.all[id]) > api.MaxLength {
		e = api.ErrLong
	} else if len(used) > m.c.Blocks {
		e = api.ErrFull
	}
	if e != api.OK {
		*m = old
		return e
	}
	m.evict(len(used) + len(m.idle) - m.c.Blocks)
	return api.OK
}

func (m *model) evict(n int) int {
	n = min(max(n, 0), len(m.idle))
	m.idle = m.idle[n:]
	return n
}

func (m *model) create(id int, tokens []int) api.Errno {
	if m.all[id] != nil {
		return api.ErrThere
	}
	if len(m.all) == api.MaxSequences || len(tokens) == 0 {
		return api.ErrArg
	}
	return m.put(id, tokens)
}

func (m *model) append(id int, tokens []int) api.Errno {
	if m.all[id] == nil {
		return api.ErrNone
	}
	return m.put(id, tokens)
}

func (m *model) fork(id, other int) api.Errno {
	switch {
	case m.all[id] == nil:
		return api.ErrNone
	case m.all[other] != nil:
		return api.ErrThere
	case len(m.all) == api.MaxSequences:
		return api.ErrArg
	}
	m.all[other], m.tails[other] = m.all[id], m.tails[id]
	return api.OK
}

func (m *model) free(id int) api.Errno {
	if m.all[id] == nil {
		return api.ErrNone
	}
	names := m.blocks(id)[:len(m.all[id])/m.c.Slots] // but for the tail
	delete(m.all, id)
	used := m.used()
	for _, name := range slices.Backward(names) {
		if used[name] == 0 {
			m.idle = append(m.idle, name)
		}
	}
	return api.OK
}

// pair is a hoard and the model of it, to which the same is done.
type pair struct {
	r *rand.Rand
	h *hoard.Hoard
	m *model
}

func paired(t *testing.T, r *rand.Rand, c api.Config) *pair {
	t.Helper()
	return &pair{r, made(t, c), &model{c: c, all: map[int][]int{}, tails: map[int]int{}}}
}

// step makes one call, tells which, and what the hoard and the model answered.
func (p *pair) step(ids int) (call string, got, want any) {
	id, other, n := p.r.Intn(ids), p.r.Intn(ids), p.r.Intn(5)
	switch p.r.Intn(8) {
	case 0, 1:
		tokens := randomTokens(p.r, p.r.Intn(10), p.m.c.Vocab)
		return "Create", p.h.Create(id, tokens), p.m.create(id, tokens)
	case 2:
		tokens := randomTokens(p.r, n, p.m.c.Vocab)
		return "Append", p.h.Append(id, tokens), p.m.append(id, tokens)
	case 3:
		old := p.m.all[id]
		l, e := p.h.Decode(id, n)
		if old == nil {
			return "Decode", e, api.ErrNone
		}
		next := goneOn(p.m.c, old, n)
		f := p.m.append(id, next)
		if e == api.OK && f == api.OK && !slices.Equal(l, next) {
			return "Decode", l, next
		}
		return "Decode", e, f
	case 4, 5:
		return "Fork", p.h.Fork(id, other), p.m.fork(id, other)
	case 6:
		return "Free", p.h.Free(id), p.m.free(id)
	}
	return "Evict", p.h.Evict(n - 1), p.m.evict(n - 1)
}

// same makes calls, and holds every answer, and how the blocks are behind it, against the model.
func (p *pair) same(t *testing.T, calls, ids int) {
	t.Helper()
	for i := range calls {
		call, got, want := p.step(ids)
		if !equal(got, want) {
			t.Fatalf("%+v: call %d, %s = %v, want %v", p.m.c, i, call, got, want)
		}
		s := p.h.Stats()
		if s != p.m.stats() {
			t.Fatalf("%+v: behind call %d, %s: %+v, want %+v (idle: %v)", p.m.c, i, call, s, p.m.stats(), p.m.idle)
		}
		if s.Free+s.Idle+s.Used != p.m.c.Blocks || min(s.Free, s.Idle, s.Used) < 0 {
			t.Fatalf("%+v of %d blocks", s, p.m.c.Blocks)
		}
	}
}

func equal(got, want any) bool {
	if l, ok := got.([]int); ok {
		return slices.Equal(l, want.([]int))
	}
	return got == want
}

func TestP4P5P6P7CallsAnswerByTheSectionBlocks(t *testing.T) {
	for seed := range int64(400) {
		r := rand.New(rand.NewSource(seed))
		c := api.Config{Blocks: 1 + r.Intn(16), Slots: 1 + r.Intn(4), Layers: 1, Heads: 1, Pairs: 1, Vocab: 2, Seed: r.Int()}
		p := paired(t, r, c)
		p.same(t, 120, 3+r.Intn(7))
	}
}

// With all blocks that may be, and long sequences.
func TestP4P5P6P7CallsAnswerByTheSectionBlocksAtTheEdges(t *testing.T) {
	for slots := 1; slots <= api.MaxSlots; slots++ {
		r := rand.New(rand.NewSource(int64(slots)))
		c := greatest
		c.Slots, c.Vocab = slots, 2
		p := paired(t, r, c)
		for id := range 2 {
			tokens := make([]int, 30)
			if got, want := p.h.Create(id, tokens), p.m.create(id, tokens); got != want || got != api.OK {
				t.Fatalf("Create = %d, want %d", got, want)
			}
		}
		p.same(t, 60, 10)
	}
}

func TestP8NobodyCanTell(t *testing.T) {
	for seed := range int64(60) {
		r := rand.New(rand.NewSource(seed))
		c := api.Config{Blocks: 3 + r.Intn(12), Slots: 1 + r.Intn(4), Layers: 1 + r.Intn(2), Heads: 1 + r.Intn(2), Pairs: 1 + r.Intn(2), Vocab: 2, Seed: r.Int()}
		p := paired(t, r, c)
		for range 20 {
			p.same(t, 5, 5)
			for id, tokens := range p.m.all {
				holds(t, p.h, c, id, tokens)
			}
		}
	}
}

func TestP9FullIsToldByNoCallForWhichEachCouldHaveItsOwnBlocks(t *testing.T) {
	told := 0
	for seed := range int64(100) {
		r := rand.New(rand.NewSource(seed))
		c := api.Config{Blocks: 2 + r.Intn(14), Slots: 1 + r.Intn(4), Layers: 1, Heads: 1, Pairs: 1, Vocab: 2 + r.Intn(2), Seed: r.Int()}
		p := paired(t, r, c)
		for range 20 {
			p.same(t, 5, 6)
			id, tokens := 100, randomTokens(r, 1+r.Intn(12), c.Vocab)
			if len(p.m.all) == api.MaxSequences {
				continue
			}
			p.m.all[id] = tokens
			apart := p.m.apart()
			delete(p.m.all, id)
			e := p.h.Create(id, tokens)
			if e == api.ErrFull {
				told++
			}
			if e == api.ErrFull && apart <= c.Blocks {
				t.Errorf("%+v: full for %v, where each for itself all would have %d", c, tokens, apart)
			}
			if want := p.m.create(id, tokens); e != want {
				t.Fatalf("Create = %d, want %d", e, want)
			}
			p.h.Free(id)
			p.m.free(id)
		}
	}
	if told == 0 {
		t.Errorf("no call was full")
	}
}

func TestP9WhenAllHaveGoneAllBlocksAreFree(t *testing.T) {
	for seed := range int64(100) {
		r := rand.New(rand.NewSource(seed))
		c := api.Config{Blocks: 1 + r.Intn(32), Slots: 1 + r.Intn(4), Layers: 1, Heads: 1, Pairs: 1, Vocab: 2, Seed: r.Int()}
		p := paired(t, r, c)
		p.same(t, 60, 9)
		for id := range p.m.all {
			if e := p.h.Free(id); e != api.OK {
				t.Errorf("Free(%d) = %d", id, e)
			}
		}
		if s := p.h.Stats(); s.Used != 0 {
			t.Errorf("of no sequence %+v are in use", s)
		}
		idle := p.h.Stats().Idle
		if n := p.h.Evict(api.MaxBlocks); n != idle {
			t.Errorf("Evict of %d = %d", idle, n)
		}
		stats(t, p.h, c.Blocks, 0, 0)
		for i := range min(c.Blocks, api.MaxSequences) { // and they can be had
			create(t, p.h, i, []int{i % 2, i / 2 % 2, i / 4 % 2}[:min(3, c.Slots)], api.OK)
		}
	}
}
