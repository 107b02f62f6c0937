package links

import "compass/api"

// none stands where no node is.
const none = -1

// The two subtrees of a node in its splay tree: of the same stretch of a way, what is above it, nearer to the root, and what is below it.
const (
	above = iota
	below
)

// node is a node of the forest. The ways of the forest are parted into stretches that go straight down, and each stretch is a splay tree: from left to right its nodes go down. A node's edge is the one to its parent.
type node struct {
	up      int    // the node over it in the splay tree; that of a splay tree's top is the parent of the stretch's highest node, and doesn't have it as a child
	child   [2]int // what the two subtrees begin with
	value   int64  // its edge's, but for what is pending over it; 0 of a root, which has none
	least   int64  // of its own value and those in its subtrees, likewise
	pending int64  // what all in its subtrees have more than is written there
}

func isLabel(x int64) bool { return x >= -api.MaxLabel && x <= api.MaxLabel }

func (f *Forest) isNode(v int) bool { return v >= 0 && v < len(f.nodes) }

// isRoot can be asked of a node that is exposed.
func (f *Forest) isRoot(v int) bool { return f.nodes[v].child[above] == none }

// raise: all in the subtree that begins with v have x more.
func (f *Forest) raise(v int, x int64) {
	if v == none {
		return
	}
	n := &f.nodes[v]
	n.value += x
	n.least += x
	n.pending += x
}

// pass hands over to the subtrees of v what is pending for them.
func (f *Forest) pass(v int) {
	for _, c := range f.nodes[v].child {
		f.raise(c, f.nodes[v].pending)
	}
	f.nodes[v].pending = 0
}

// renew works out what v says of itself and its subtrees; nothing is pending for them.
func (f *Forest) renew(v int) {
	least := f.nodes[v].value
	for _, c := range f.nodes[v].child {
		if c != none {
			least = min(least, f.nodes[c].least)
		}
	}
	f.nodes[v].least = least
}

// set can be called of a node that is exposed.
func (f *Forest) set(v int, value int64) {
	f.nodes[v].value = value
	f.renew(v)
}

// side: which subtree of the node over it v begins; none, if v is on top of its splay tree.
func (f *Forest) side(v int) int {
	if up := f.nodes[v].up; up != none {
		for side, c := range f.nodes[up].child {
			if c == v {
				return side
			}
		}
	}
	return none
}

// hang: a subtree of up begins with v, or is empty.
func (f *Forest) hang(v, up, side int) {
	f.nodes[up].child[side] = v
	if v != none {
		f.nodes[v].up = up
	}
}

// rotate: v, which isn't on top, and the node over it change places. What is pending further up is for both, whichever is over the other.
func (f *Forest) rotate(v int) {
	up := f.nodes[v].up
	f.pass(up)
	f.pass(v)
	over, side, upSide := f.nodes[up].up, f.side(v), f.side(up)
	f.hang(f.nodes[v].child[1-side], up, side)
	f.hang(up, v, 1-side)
	f.nodes[v].up = over
	if upSide != none {
		f.nodes[over].child[upSide] = v
	}
	f.renew(up)
	f.renew(v)
}

// splay brings v to the top of its splay tree; nothing is pending over it or below it then.
func (f *Forest) splay(v int) {
	for f.side(v) != none {
		up := f.nodes[v].up
		switch f.side(up) {
		case none:
		case f.side(v): // two steps the same way: only so do deep trees become flat
			f.rotate(up)
		default:
			f.rotate(v)
		}
		f.rotate(v)
	}
	f.pass(v)
}

// expose makes the way from v to the root one stretch, with v on top of its splay tree.
func (f *Forest) expose(v int) {
	lower := none
	for at := v; at != none; at = f.nodes[at].up {
		f.splay(at)
		f.hang(lower, at, below)
		f.renew(at)
		lower = at
	}
	f.splay(v)
}

// exposeEdge: likewise, where v must have an edge.
func (f *Forest) exposeEdge(v int) api.Errno {
	if !f.isNode(v) {
		return api.ErrNode
	}
	if f.expose(v); f.isRoot(v) {
		return api.ErrRoot
	}
	return api.OK
}

// lay makes the way from v to the root one stretch, with the root on top. So all nodes of the way that have an edge are in one subtree: what that begins with is answered beside the root (none, if v is the root).
func (f *Forest) lay(v int) (root, edges int) {
	f.expose(v)
	root = f.last(v, above)
	f.splay(root)
	return root, f.nodes[root].child[below]
}

// last: the outermost node of the subtree that begins with v. Whoever goes there splays it, so that it isn't as far the next time.
func (f *Forest) last(v, side int) int {
	for f.nodes[v].child[side] != none {
		v = f.nodes[v].child[side]
	}
	return v
}
