package store

// Tree keeps values, each told by the whole path to it. The zero Tree is empty.
type Tree[K comparable, V any] struct {
	children map[K]*Tree[K, V]
	value    V
	has      bool
}

// Farthest gives the value that lies farthest along the path, if there is one on it.
func (t *Tree[K, V]) Farthest(path []K) (V, bool) {
	value, there := t.value, t.has
	for _, step := range path {
		t = t.children[step]
		if t == nil {
			break
		}
		if t.has {
			value, there = t.value, true
		}
	}
	return value, there
}

// Put puts a value at the end of the path, in place of the one that was there.
func (t *Tree[K, V]) Put(path []K, value V) {
	for _, step := range path {
		t = t.child(step)
	}
	t.value, t.has = value, true
}

func (t *Tree[K, V]) child(step K) *Tree[K, V] {
	if t.children == nil {
		t.children = map[K]*Tree[K, V]{}
	}
	next, there := t.children[step]
	if !there {
		next = &Tree[K, V]{}
		t.children[step] = next
	}
	return next
}

// Remove takes the value at the end of the path away, if there is one, and the steps that lead to no other: else the tree would only ever grow.
func (t *Tree[K, V]) Remove(path []K) {
	if len(path) == 0 {
		var none V
		t.value, t.has = none, false
		return
	}
	next, there := t.children[path[0]]
	if !there {
		return
	}
	next.Remove(path[1:])
	if !next.has && len(next.children) == 0 {
		delete(t.children, path[0])
	}
}
