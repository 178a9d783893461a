package store

import "testing"

func TestPool(t *testing.T) {
	p := NewPool[string](3)
	taken := map[*string]int{}
	for left := 3; left > 0; left-- {
		if p.Free() != left {
			t.Fatalf("Free = %d, want %d", p.Free(), left)
		}
		taken[p.Take()]++
	}
	if len(taken) != 3 || taken[nil] != 0 {
		t.Errorf("three things taken are %d", len(taken))
	}
	if p.Take() != nil || p.Free() != 0 {
		t.Errorf("an empty pool handed something out")
	}
	if NewPool[int](0).Take() != nil {
		t.Errorf("a pool of none handed something out")
	}
}

func TestPoolTakesBack(t *testing.T) {
	p := NewPool[[]int](2)
	a, b := p.Take(), p.Take()
	*a, *b = []int{1}, []int{2}
	p.Give(a)
	if p.Free() != 1 || *a != nil || (*b)[0] != 2 {
		t.Errorf("%d free, and in them %v", p.Free(), *a)
	}
	if p.Take() != a || p.Free() != 0 || p.Take() != nil {
		t.Errorf("what was given back is not what is taken")
	}
	p.Give(b)
	p.Give(a)
	if c, d := p.Take(), p.Take(); c == d || c == nil || d == nil || p.Take() != nil {
		t.Errorf("two things given back are not two")
	}
}

func TestTree(t *testing.T) {
	var tree Tree[string, int]
	if _, there := tree.At(nil); there {
		t.Errorf("an empty tree has a value")
	}
	tree.Put([]string{"a", "b"}, 1)
	tree.Put([]string{"a", "b", "c"}, 2)
	tree.Put([]string{"b", "b"}, 0)
	for _, c := range []struct {
		path  []string
		value int
		there bool
	}{
		{nil, 0, false},
		{[]string{"a"}, 0, false},
		{[]string{"a", "b"}, 1, true},
		{[]string{"a", "b", "c"}, 2, true},
		{[]string{"a", "b", "c", "d"}, 0, false},
		{[]string{"b", "b"}, 0, true},
		{[]string{"b", "a"}, 0, false},
		{[]string{"c"}, 0, false},
	} {
		if v, there := tree.At(c.path); v != c.value || there != c.there {
			t.Errorf("At(%v) = %d, %v", c.path, v, there)
		}
	}
	tree.Put([]string{"a", "b"}, 7)
	if v, _ := tree.At([]string{"a", "b"}); v != 7 {
		t.Errorf("put anew: %d", v)
	}
	if v, _ := tree.At([]string{"a", "b", "c"}); v != 2 {
		t.Errorf("what lay behind it: %d", v)
	}
}

func TestTreeDoesNotKeepThePath(t *testing.T) {
	var tree Tree[int, int]
	path := []int{1, 2}
	tree.Put(path, 5)
	path[0] = 9
	if v, there := tree.At([]int{1, 2}); v != 5 || !there {
		t.Errorf("At = %d, %v", v, there)
	}
}
