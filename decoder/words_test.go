package decoder

import (
	"slices"
	"testing"

	"hoard/api"
)

func TestWeightsOfTheDocument(t *testing.T) {
	for _, c := range []struct {
		seed int
		want []int
	}{
		{0, []int{4, 4, 1, -6, 6, -1}},
		{-1, []int{6, 1, 2}},
	} {
		for n, want := range c.want {
			if got := weight(uint64(c.seed), uint64(n)); got != want {
				t.Errorf("seed %d: weight %d = %d, want %d", c.seed, n, got, want)
			}
		}
	}
}

func TestWeightsReachBothEnds(t *testing.T) {
	least, most := 0, 0
	for n := range uint64(2000) {
		w := weight(1, n)
		least, most = min(least, w), max(most, w)
	}
	if least != -8 || most != 8 {
		t.Errorf("weights from %d to %d, want -8 to 8", least, most)
	}
}

func TestDealerGoesOnWhereItStopped(t *testing.T) {
	d := dealer{}
	first, second := d.matrix(2, 1), d.matrix(1, 4)
	if !slices.Equal(first[0], []int{4}) || !slices.Equal(first[1], []int{4}) || !slices.Equal(second[0], []int{1, -6, 6, -1}) {
		t.Errorf("dealt %v, %v", first, second)
	}
}

func TestCut(t *testing.T) {
	for _, c := range [][2]int{{0, 0}, {4095, 4095}, {4096, 4095}, {-4095, -4095}, {-4096, -4095}, {1 << 40, 4095}, {-1 << 40, -4095}} {
		if got := cut(c[0]); got != c[1] {
			t.Errorf("cut(%d) = %d, want %d", c[0], got, c[1])
		}
	}
}

func TestTimes(t *testing.T) {
	m := matrix{{1, 0}, {-1, 0}, {0, 8}, {0, -8}, {8, 8}, {-8, -8}, {3, -1}}
	got := m.times([]int{15, 4095})
	want := []int{1, -1, 4095, -4095, 4095, -4095, -506} // (45 - 4095) / 8 is -506.25
	if !slices.Equal(got, want) {
		t.Errorf("times = %v, want %v", got, want)
	}
}

func TestRoot(t *testing.T) {
	for m := 1; m <= api.Most+1; m++ {
		if a, b := root(m*m), root(m*m+2*m); a != m || b != m {
			t.Fatalf("root(%d) = %d, root(%d) = %d, want %d", m*m, a, m*m+2*m, b, m)
		}
	}
}

func TestNorm(t *testing.T) {
	alone := make([]int, 400) // so many that the square of one word hardly counts
	alone[0], alone[1] = 19, -19
	wide := make([]int, 400)
	wide[0], wide[1] = 4095, -4095
	for _, c := range []struct{ words, want []int }{
		{[]int{0, 0}, []int{0, 0}},
		{[]int{1, -1}, []int{256, -256}},     // m: the root of 2
		{[]int{3, 0}, []int{384, 0}},         // m: the root of 4 + 1
		{[]int{5, -5}, []int{256, -256}},     // m: the root of 26
		{[]int{10, -3}, []int{365, -109}},    // m: the root of 54 + 1; 365.7, -109.7
		{[]int{4095, 4095}, []int{256, 256}}, // m: the root of 4095 squared and 1
		{alone[:2:2], []int{256, -256}},
	} {
		if got := norm(c.words); !slices.Equal(got, c.want) {
			t.Errorf("norm(%v) = %v, want %v", c.words, got, c.want)
		}
	}
	if got := norm(alone); got[0] != 4095 || got[1] != -4095 { // m is 1: 4864, cut
		t.Errorf("norm of few words among many = %v", got[:2])
	}
	if got := norm(wide); got[0] != 3627 || got[1] != -3627 { // m is 289
		t.Errorf("norm of great words among many = %v", got[:2])
	}
}

func TestTurn(t *testing.T) {
	words := []int{1, 2, 3, 4, 5, -6, -7, 4095} // two heads of two pairs
	for position, want := range [][]int{
		{1, 2, 3, 4, 5, -6, -7, 4095},
		{-2, 1, -3, -4, 6, 5, 7, -4095},
		{-1, -2, 3, 4, -5, 6, -7, 4095},
		{2, -1, -3, -4, -6, -5, 7, -4095},
	} {
		for round := range 10 {
			if got := turn(words, position+4*round, 2); !slices.Equal(got, want) {
				t.Errorf("turn at %d = %v, want %v", position+4*round, got, want)
			}
		}
	}
	if got := turn([]int{1, 2, 3, 4}, 1, 1); !slices.Equal(got, []int{-2, 1, -4, 3}) {
		t.Errorf("turn of two heads of one pair = %v", got)
	}
	if words[0] != 1 || words[7] != 4095 {
		t.Errorf("turn wrote into its words: %v", words)
	}
}

func TestPlus(t *testing.T) {
	got := plus([]int{4000, -4000, 5, 4095}, []int{95, -96, -7, 1})
	if !slices.Equal(got, []int{4095, -4095, -2, 4095}) {
		t.Errorf("plus = %v", got)
	}
}

func TestNotBelowZero(t *testing.T) {
	if got := notBelowZero([]int{-4095, -1, 0, 1, 4095}); !slices.Equal(got, []int{0, 0, 0, 1, 4095}) {
		t.Errorf("notBelowZero = %v", got)
	}
}
