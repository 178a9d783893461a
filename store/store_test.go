package store

import "testing"

func TestPool(t *testing.T) {
	p := NewPool[string](3)
	taken := map[*string]int{}
	for left := 3; left > 0; left-- {
		if p.Free() != left {
			t.Fatalf("Free = %d, want %d", p.Free(), left)
		}
		taken[p.Take()]++
	}
	if len(taken) != 3 || taken[nil] != 0 {
		t.Errorf("three things taken are %d", len(taken))
	}
	if p.Take() != nil || p.Free() != 0 {
		t.Errorf("an empty pool handed something out")
	}
	if NewPool[int](0).Take() != nil {
		t.Errorf("a pool of none handed something out")
	}
}

func TestPoolTakesBack(t *testing.T) {
	p := NewPool[[]int](2)
	a, b := p.Take(), p.Take()
	*a, *b = []int{1}, []int{2}
	p.Give(a)
	if p.Free() != 1 || *a != nil || (*b)[0] != 2 {
		t.Errorf("%d free, and in them %v", p.Free(), *a)
	}
	if p.Take() != a || p.Free() != 0 || p.Take() != nil {
		t.Errorf("what was given back is not what is taken")
	}
	p.Give(b)
	p.Give(a)
	if c, d := p.Take(), p.Take(); c == d || c == nil || d == nil || p.Take() != nil {
		t.Errorf("two things given back are not two")
	}
}

func TestPoolHoldsNothingThatItGaveAway(t *testing.T) {
	p := NewPool[int](3)
	for range 2 {
		p.Take()
	}
	for i, thing := range p.free[:3] {
		if (thing != nil) != (i == 0) {
			t.Errorf("at %d is %p", i, thing)
		}
	}
}

func TestList(t *testing.T) {
	var l List[string]
	if l.Len() != 0 || l.First() != "" {
		t.Errorf("an empty list has %d: %q", l.Len(), l.First())
	}
	l.Remove("a")
	for _, thing := range []string{"c", "a", "d", "b"} {
		l.Add(thing)
	}
	l.Remove("a")
	l.Remove("e")
	l.Add("a") // it came last now
	for i, want := range []string{"c", "d", "b", "a"} {
		if l.Len() != 4-i || l.First() != want || l.First() != want {
			t.Errorf("first of %d is %q, want %q", l.Len(), l.First(), want)
		}
		l.Remove(want)
	}
	if l.Len() != 0 || l.First() != "" {
		t.Errorf("all removed: %d left: %q", l.Len(), l.First())
	}
}

func TestListHoldsNothingThatWasRemoved(t *testing.T) {
	var l List[*int]
	for range 3 {
		l.Add(new(int))
	}
	for range 3 {
		l.Remove(l.First())
	}
	for _, thing := range l.things[:cap(l.things)] {
		if thing != nil {
			t.Errorf("what was removed is held")
		}
	}
}

type wanted struct {
	path  string
	value int
	there bool
}

func lies(t *testing.T, tree *Tree[byte, int], all ...wanted) {
	t.Helper()
	for _, w := range all {
		if v, there := tree.Farthest([]byte(w.path)); v != w.value || there != w.there {
			t.Errorf("Farthest(%q) = %d, %v, want %d, %v", w.path, v, there, w.value, w.there)
		}
	}
}

func planted() *Tree[byte, int] {
	var tree Tree[byte, int]
	tree.Put([]byte("ab"), 1)
	tree.Put([]byte("abcd"), 2)
	tree.Put([]byte("bb"), 0)
	return &tree
}

func TestTree(t *testing.T) {
	var empty Tree[byte, int]
	lies(t, &empty, wanted{"", 0, false}, wanted{"a", 0, false})
	tree := planted()
	lies(t, tree,
		wanted{"", 0, false}, wanted{"a", 0, false}, wanted{"ab", 1, true}, wanted{"abc", 1, true}, wanted{"abcd", 2, true},
		wanted{"abcde", 2, true}, wanted{"abce", 1, true}, wanted{"abdd", 1, true}, wanted{"abdc", 1, true}, wanted{"acb", 0, false},
		wanted{"bb", 0, true}, wanted{"bbcd", 0, true}, wanted{"ba", 0, false}, wanted{"c", 0, false}, wanted{"cd", 0, false})
	tree.Put([]byte("ab"), 7)
	lies(t, tree, wanted{"ab", 7, true}, wanted{"abcd", 2, true})
	tree.Put(nil, 9)
	lies(t, tree, wanted{"", 9, true}, wanted{"c", 9, true}, wanted{"ab", 7, true})
}

func TestTreeRemove(t *testing.T) {
	tree := planted()
	for _, path := range []string{"", "a", "abc", "abcde", "b", "c", "bbb"} { // where no value is
		tree.Remove([]byte(path))
	}
	lies(t, tree, wanted{"abcd", 2, true}, wanted{"abc", 1, true}, wanted{"bb", 0, true})
	tree.Remove([]byte("ab"))
	lies(t, tree, wanted{"abcd", 2, true}, wanted{"abc", 0, false}, wanted{"bb", 0, true})
	tree.Put([]byte("ab"), 3)
	tree.Remove([]byte("abcd"))
	lies(t, tree, wanted{"abcd", 3, true}, wanted{"bb", 0, true})
	tree.Put(nil, 4)
	tree.Remove(nil)
	lies(t, tree, wanted{"", 0, false}, wanted{"ab", 3, true})
}

func TestTreeHoldsNothingThatWasRemoved(t *testing.T) {
	var tree Tree[byte, *int]
	for _, path := range []string{"", "ab", "abcd", "abce", "b"} {
		tree.Put([]byte(path), new(int))
	}
	tree.Remove([]byte("abcd"))
	if ab := tree.children['a'].children['b']; len(ab.children['c'].children) != 1 || ab.value == nil {
		t.Errorf("too much was removed, or too little")
	}
	tree.Remove([]byte("abce"))
	if ab := tree.children['a'].children['b']; len(ab.children) != 0 || ab.value == nil {
		t.Errorf("steps that lead nowhere are kept")
	}
	for _, path := range []string{"b", "", "ab"} {
		tree.Remove([]byte(path))
	}
	if len(tree.children) != 0 || tree.value != nil {
		t.Errorf("%d steps, and %v, are kept", len(tree.children), tree.value)
	}
}

func TestTreeDoesNotKeepThePath(t *testing.T) {
	var tree Tree[byte, int]
	path := []byte("ab")
	tree.Put(path, 5)
	path[0] = 'c'
	lies(t, &tree, wanted{"ab", 5, true}, wanted{"cb", 0, false})
}
