package hoard_test

import "hoard/api"

// reference reckons all tokens of a sequence from the beginning, keeps nothing, shares no code with the program, and turns pairs by hand: what the program tells must be the same.
type reference struct {
	c      api.Config
	kept   [][][2][]int // by position and layer: k, v
	logits []int
}

func reckon(c api.Config, tokens []int) *reference {
	r := &reference{c: c}
	for p, token := range tokens {
		r.put(p, token)
	}
	return r
}

func (r *reference) width() int { return 2 * r.c.Heads * r.c.Pairs }

func (r *reference) weight(n int) int {
	u := uint64(r.c.Seed) + 0x9E3779B97F4A7C15*uint64(n+1)
	u = (u ^ u>>30) * 0xBF58476D1CE4E5B9
	u = (u ^ u>>27) * 0x94D049BB133111EB
	return int((u^u>>31)%17) - 8
}

// part multiplies a vector by the matrix that begins at a weight.
func (r *reference) part(start, rows int, v []int) []int {
	out := make([]int, rows)
	for i := range out {
		sum := 0
		for j := range v {
			sum += r.weight(start+i*len(v)+j) * v[j]
		}
		out[i] = limit(sum / 8)
	}
	return out
}

func limit(n int) int {
	if n > 4095 {
		return 4095
	}
	if n < -4095 {
		return -4095
	}
	return n
}

func even(v []int) []int {
	sum := 0
	for _, w := range v {
		sum += w * w
	}
	m := 0
	for (m+1)*(m+1) <= sum/len(v)+1 {
		m++
	}
	out := make([]int, len(v))
	for i, w := range v {
		out[i] = limit(w * 256 / m)
	}
	return out
}

func (r *reference) turned(v []int, p int) []int {
	for head := range r.c.Heads {
		for j := range r.c.Pairs {
			at := 2 * (head*r.c.Pairs + j)
			for range p * (j + 1) {
				v[at], v[at+1] = -v[at+1], v[at]
			}
		}
	}
	return v
}

func (r *reference) put(p, token int) {
	w, x := r.width(), []int{}
	for i := range w {
		x = append(x, 64*r.weight(token*w+i))
	}
	r.kept = append(r.kept, nil)
	for layer := range r.c.Layers {
		start := r.c.Vocab*w + layer*8*w*w
		y := even(x)
		q, k, v := r.turned(r.part(start, w, y), p), r.turned(r.part(start+w*w, w, y), p), r.part(start+2*w*w, w, y)
		r.kept[p] = append(r.kept[p], [2][]int{k, v})
		o := r.part(start+3*w*w, w, r.heads(q, layer))
		for i := range x {
			x[i] = limit(x[i] + o[i])
		}
		z := r.part(start+4*w*w, 2*w, even(x))
		for i := range z {
			if z[i] < 0 {
				z[i] = 0
			}
		}
		d := r.part(start+6*w*w, w, z)
		for i := range x {
			x[i] = limit(x[i] + d[i])
		}
	}
	r.logits = r.part(r.c.Vocab*w+r.c.Layers*8*w*w, r.c.Vocab, even(x))
}

func (r *reference) heads(q []int, layer int) []int {
	out := make([]int, len(q))
	for i := range q {
		first := i / (2 * r.c.Pairs) * 2 * r.c.Pairs
		var scores []int
		for _, cell := range r.kept {
			s := 0
			for j := first; j < first+2*r.c.Pairs; j++ {
				s += q[j] * cell[layer][0][j]
			}
			scores = append(scores, s/256)
		}
		greatest := scores[0]
		for _, s := range scores {
			greatest = max(greatest, s)
		}
		all, sum := 0, 0
		for t, s := range scores {
			share := 0
			if greatest-s <= 16 {
				share = 65536 >> (greatest - s)
			}
			all += share
			sum += share * r.kept[t][layer][1][i]
		}
		out[i] = sum / all
	}
	return out
}
