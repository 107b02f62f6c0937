package heaps

// none stands where no handle is.
const none = -1

// relatives of a handle in its tree: its parent, the first of its children, and the siblings beside it.
type relatives struct{ parent, child, ahead, next int }

// forest is trees of handles in which no child comes out ahead of its parent.
type forest struct {
	*keys
	kin []relatives
}

func newForest(k *keys) forest { return forest{k, make([]relatives, len(k.key))} }

// plant makes h a tree by itself.
func (f *forest) plant(h int) { f.kin[h] = relatives{none, none, none, none} }

// join: the root of one tree made of two, of which either may be none.
func (f *forest) join(a, b int) int {
	switch {
	case a == none:
		return b
	case b == none:
		return a
	case f.before(b, a):
		a, b = b, a
	}
	first := f.kin[a].child
	f.kin[a].child = b
	f.kin[b].parent, f.kin[b].next = a, first
	if first != none {
		f.kin[first].ahead = b
	}
	return a
}

// cut parts h, which has a parent, and all below it from the rest.
func (f *forest) cut(h int) {
	r := f.kin[h]
	if r.ahead == none {
		f.kin[r.parent].child = r.next
	} else {
		f.kin[r.ahead].next = r.next
	}
	if r.next != none {
		f.kin[r.next].ahead = r.ahead
	}
	f.kin[h] = relatives{none, r.child, none, none}
}

// orphans parts all children from h; they are answered, as roots.
func (f *forest) orphans(h int) []int {
	var all []int
	for f.kin[h].child != none {
		all = append(all, f.kin[h].child)
		f.cut(f.kin[h].child)
	}
	return all
}
