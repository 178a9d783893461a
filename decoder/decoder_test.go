package decoder

import (
	"slices"
	"testing"

	"hoard/api"
)

func TestShares(t *testing.T) {
	got := shares([]int{-10, 6, -11, 5, 6, -9, 6 - 1000})
	want := []int{1, 65536, 0, 32768, 65536, 2, 0}
	if !slices.Equal(got, want) {
		t.Errorf("shares = %v, want %v", got, want)
	}
	if got := shares([]int{-70000}); !slices.Equal(got, []int{65536}) {
		t.Errorf("the share of one alone = %v", got)
	}
}

func TestAttendHead(t *testing.T) {
	q := []int{9, 9, 256, 0}
	seen := []Memory{
		{K: []int{4000, 4000, 2, 50}, V: []int{1, 1, 300, -300}},
		{K: []int{-4000, 0, 1, -50}, V: []int{2, 2, 0, 1}},
		{K: []int{0, 0, 0, 4095}, V: []int{3, 3, -7, 0}},
	}
	// The scores are 2, 1, 0: shares as 4 to 2 to 1.
	want := []int{(4*300 - 7) / 7, (-4*300 + 2) / 7}
	if got := attendHead(q, seen, 2, 4); !slices.Equal(got, want) {
		t.Errorf("attendHead = %v, want %v", got, want)
	}
}

func TestScoresAreCutTowardsZero(t *testing.T) {
	q := []int{1, 0}
	seen := []Memory{{K: []int{-255, 0}, V: []int{10, 0}}, {K: []int{255, 0}, V: []int{20, 0}}}
	if got := attendHead(q, seen, 0, 2); got[0] != 15 {
		t.Errorf("two scores of 0 give %v", got)
	}
}

func TestShapes(t *testing.T) {
	m := New(api.Config{Blocks: 1, Slots: 1, Layers: 2, Heads: 2, Pairs: 1, Vocab: 5})
	for _, c := range []struct {
		name          string
		m             matrix
		rows, columns int
	}{
		{"embedding", m.embedding, 5, 4}, {"head", m.head, 5, 4},
		{"q", m.layers[1].q, 4, 4}, {"k", m.layers[1].k, 4, 4}, {"v", m.layers[1].v, 4, 4}, {"o", m.layers[1].o, 4, 4},
		{"up", m.layers[1].up, 8, 4}, {"down", m.layers[1].down, 4, 8},
	} {
		if len(c.m) != c.rows || len(c.m[0]) != c.columns {
			t.Errorf("%s: %d rows of %d", c.name, len(c.m), len(c.m[0]))
		}
	}
	if len(m.layers) != 2 {
		t.Errorf("%d layers", len(m.layers))
	}
}

func TestPassLeavesThePastAlone(t *testing.T) {
	m := New(api.Config{Blocks: 1, Slots: 1, Layers: 1, Heads: 1, Pairs: 1, Vocab: 4})
	_, first := m.Pass(0, nil, nil)
	k, v := slices.Clone(first[0].K), slices.Clone(first[0].V)
	room := []Cell{first, nil}
	m.Pass(3, room[:1], nil)
	if !slices.Equal(first[0].K, k) || !slices.Equal(first[0].V, v) || room[1] != nil {
		t.Errorf("the past became %v", room)
	}
}

func TestPassTakesACellThatIsKeptAsItIs(t *testing.T) {
	m := New(api.Config{Blocks: 1, Slots: 1, Layers: 2, Heads: 1, Pairs: 1, Vocab: 4})
	_, first := m.Pass(0, nil, nil)
	x, cell := m.Pass(3, []Cell{first}, nil)
	again, same := m.Pass(3, []Cell{first}, cell)
	if !slices.Equal(again, x) || &same[0] != &cell[0] || len(same) != 2 {
		t.Errorf("with its own cell handed in: %v, want %v", again, x)
	}
	odd := Cell{{K: cell[0].K, V: []int{4000, -4000}}, cell[1]}
	other, same := m.Pass(3, []Cell{first}, odd)
	if slices.Equal(other, x) || !slices.Equal(same[0].V, []int{4000, -4000}) {
		t.Errorf("a cell that is kept was reckoned again: %v", other)
	}
}

func TestGreatestIsTheFirstOfSeveral(t *testing.T) {
	for _, c := range []struct {
		numbers []int
		want    int
	}{
		{[]int{5}, 0},
		{[]int{-5, -4}, 1},
		{[]int{0, 0}, 0},
		{[]int{1, 7, 3, 7, 7}, 1},
		{[]int{-4095, -4095, 4095, 4095}, 2},
		{[]int{9, 8, 9}, 0},
	} {
		if got := greatest(c.numbers); got != c.want {
			t.Errorf("greatest(%v) = %d, want %d", c.numbers, got, c.want)
		}
	}
}

func TestNextIsTheTokenOfTheGreatestLogit(t *testing.T) {
	m := &Model{head: matrix{{1, 0}, {0, 1}, {0, 1}, {-1, -1}}}
	for _, c := range []struct {
		x    []int
		want int
	}{
		{[]int{100, 50}, 0},
		{[]int{50, 100}, 1},
		{[]int{-50, -50}, 3},
		{[]int{0, 0}, 0},
	} {
		if got := m.Next(c.x); got != c.want {
			t.Errorf("Next(%v) = %d, want %d", c.x, got, c.want)
		}
	}
}
