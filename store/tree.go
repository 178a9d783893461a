package store

// Tree keeps values, each told by the whole path to it. The zero Tree is empty.
type Tree[K comparable, V any] struct {
	children map[K]*Tree[K, V]
	value    V
	has      bool
}

// At gives the value that was put at the end of the path, if there is one.
func (t *Tree[K, V]) At(path []K) (V, bool) {
	for _, step := range path {
		next, there := t.children[step]
		if !there {
			var none V
			return none, false
		}
		t = next
	}
	return t.value, t.has
}

// Put puts a value at the end of the path, in place of the one that was there.
func (t *Tree[K, V]) Put(path []K, value V) {
	for _, step := range path {
		t = t.child(step)
	}
	t.value, t.has = value, true
}

func (t *Tree[K, V]) child(step K) *Tree[K, V] {
	if t.children == nil {
		t.children = map[K]*Tree[K, V]{}
	}
	next, there := t.children[step]
	if !there {
		next = &Tree[K, V]{}
		t.children[step] = next
	}
	return next
}
