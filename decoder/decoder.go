// Package decoder: the small machine that goes on with tokens, in whole numbers.
package decoder

import (
	"slices"

	"hoard/api"
)

// Model has the weights of a config, and never changes.
type Model struct {
	pairs           int
	embedding, head matrix
	layers          []layer
}

type layer struct {
	q, k, v, o, up, down matrix
}

// Memory is what is kept of one token for one layer.
type Memory struct {
	K, V []int
}

// Cell is what is kept of one token, layer by layer.
type Cell []Memory

// New makes the model of a config, which must be one.
func New(c api.Config) *Model {
	width := 2 * c.Heads * c.Pairs
	d := dealer{seed: uint64(c.Seed)}
	m := &Model{pairs: c.Pairs, embedding: d.matrix(c.Vocab, width)}
	for range c.Layers {
		var l layer
		l.q = d.matrix(width, width)
		l.k = d.matrix(width, width)
		l.v = d.matrix(width, width)
		l.o = d.matrix(width, width)
		l.up = d.matrix(2*width, width)
		l.down = d.matrix(width, 2*width)
		m.layers = append(m.layers, l)
	}
	m.head = d.matrix(c.Vocab, width)
	return m
}

// Pass sends a token through all layers, behind the tokens whose cells are the past. Its own cell is handed in if it is kept already, so that it is not reckoned again; else nil. It gives what comes out of the last layer, and the token's own cell.
func (m *Model) Pass(token int, past []Cell, own Cell) ([]int, Cell) {
	position := len(past)
	x := embedded(m.embedding[token])
	for i, l := range m.layers {
		y := norm(x)
		if i == len(own) {
			own = append(own, Memory{K: turn(l.k.times(y), position, m.pairs), V: l.v.times(y)})
		}
		q := turn(l.q.times(y), position, m.pairs)
		seen := append(ofLayer(past, i), own[i])
		x = plus(x, l.o.times(m.attend(q, seen)))
		z := notBelowZero(l.up.times(norm(x)))
		x = plus(x, l.down.times(z))
	}
	return x, own
}

// Logits takes what came out of the last layer.
func (m *Model) Logits(x []int) []int {
	return m.head.times(norm(x))
}

// Next takes what came out of the last layer, and gives the next token.
func (m *Model) Next(x []int) int {
	return greatest(m.Logits(x))
}

// greatest tells where the greatest number stands, the first of several.
func greatest(numbers []int) int {
	return slices.Index(numbers, slices.Max(numbers))
}

func embedded(row []int) []int {
	x := make([]int, len(row))
	for i, w := range row {
		x[i] = 64 * w
	}
	return x
}

func ofLayer(cells []Cell, layer int) []Memory {
	out := make([]Memory, len(cells))
	for t, c := range cells {
		out[t] = c[layer]
	}
	return out
}

func (m *Model) attend(q []int, seen []Memory) []int {
	size := 2 * m.pairs
	out := make([]int, 0, len(q))
	for from := 0; from < len(q); from += size {
		out = append(out, attendHead(q, seen, from, from+size)...)
	}
	return out
}

// attendHead looks at the words of one head alone: those from one place up to another.
func attendHead(q []int, seen []Memory, from, to int) []int {
	scores := make([]int, len(seen))
	for t, m := range seen {
		scores[t] = product(q[from:to], m.K[from:to]) / 256
	}
	sums := make([]int, to-from)
	all := 0
	for t, share := range shares(scores) {
		all += share
		for i, w := range seen[t].V[from:to] {
			sums[i] += share * w
		}
	}
	for i := range sums {
		sums[i] /= all
	}
	return sums
}

func shares(scores []int) []int {
	greatest := slices.Max(scores)
	out := make([]int, len(scores))
	for t, s := range scores {
		if less := greatest - s; less <= 16 {
			out[t] = 65536 >> less
		}
	}
	return out
}
