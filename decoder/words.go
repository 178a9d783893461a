package decoder

import (
	"sort"

	"hoard/api"
)

func cut(n int) int {
	return max(-api.Most, min(n, api.Most))
}

func product(a, b []int) int {
	sum := 0
	for i, w := range a {
		sum += w * b[i]
	}
	return sum
}

func (m matrix) times(words []int) []int {
	out := make([]int, len(m))
	for i, row := range m {
		out[i] = cut(product(row, words) / 8)
	}
	return out
}

func norm(words []int) []int {
	m := root(product(words, words)/len(words) + 1)
	out := make([]int, len(words))
	for i, w := range words {
		out[i] = cut(w * 256 / m)
	}
	return out
}

// root is the greatest whole number whose square is not above n, which is at least 1.
func root(n int) int {
	return sort.Search(n, func(m int) bool { return (m+1)*(m+1) > n })
}

// turn takes each pair of words for a complex number; a head has so many pairs.
func turn(words []int, position, pairs int) []int {
	out := make([]int, 0, len(words))
	for at := 0; at < len(words); at += 2 {
		pair := at / 2 % pairs
		z := complex(float64(words[at]), float64(words[at+1])) * powerOfI(position*(pair+1))
		out = append(out, int(real(z)), int(imag(z)))
	}
	return out
}

func powerOfI(n int) complex128 {
	z := 1 + 0i
	for range n % 4 { // the powers come round every four
		z *= 1i
	}
	return z
}

func plus(a, b []int) []int {
	out := make([]int, len(a))
	for i, w := range a {
		out[i] = cut(w + b[i])
	}
	return out
}

func notBelowZero(words []int) []int {
	out := make([]int, len(words))
	for i, w := range words {
		out[i] = max(0, w)
	}
	return out
}
