package decoder

// matrix has its rows one behind the other.
type matrix [][]int

// dealer deals the one long row of weights out, so that each matrix begins where the one ahead of it ended.
type dealer struct {
	seed, next uint64
}

func (d *dealer) matrix(rows, columns int) matrix {
	m := make(matrix, rows)
	for i := range m {
		m[i] = make([]int, columns)
		for j := range m[i] {
			m[i][j] = weight(d.seed, d.next)
			d.next++
		}
	}
	return m
}

// weight is the one with the number n.
func weight(seed, n uint64) int {
	u := seed + 0x9E3779B97F4A7C15*(n+1)
	u ^= u >> 30
	u *= 0xBF58476D1CE4E5B9
	u ^= u >> 27
	u *= 0x94D049BB133111EB
	u ^= u >> 31
	return int(u%17) - 8
}
