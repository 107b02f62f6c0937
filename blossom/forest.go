package blossom

import (
	"slices"

	"compass/api"
)

// none stands where no node is.
const none = -1

// The labels of nodes.
const (
	free  = iota // in no tree
	outer        // an even number of edges leads from the root to it
	inner        // only an odd number does
)

// forest is a matching as it grows, and the trees from whose roots no more could be matched. A tree goes from a node that isn't matched along edges of which every other one is matched. Odd circles in it are shrunk: all of their nodes are outer ones then, and go by one of them, their base.
//
// A tree that is left as it stands has no edge from its outer nodes but to its own nodes and to inner ones of earlier trees. So no later search has anything to look for there, and at the end the outer nodes are just those that may be left out.
type forest struct {
	beside [][]int // of each node those that an edge joins it with
	mate   []int   // whom each node is matched with; none, if with nobody
	label  []int
	base   []int // a node that is nearer to the base of its circle; a base has itself
	link   []int // of each node that a matched edge leads to on a way back to the root, where that way goes on
	tree   []int // the nodes that the search gave a label
	queue  []int // the outer nodes among them
	come   []int // in which meeting each base was come to last
	meets  int   // how many there were
}

func newForest(g api.Graph) *forest {
	f := &forest{beside: make([][]int, g.Nodes), mate: slices.Repeat([]int{none}, g.Nodes)}
	f.label, f.link, f.come = make([]int, g.Nodes), make([]int, g.Nodes), make([]int, g.Nodes)
	for v := range g.Nodes {
		f.base = append(f.base, v)
	}
	for _, e := range g.Edges {
		f.beside[e.From] = append(f.beside[e.From], e.To)
		f.beside[e.To] = append(f.beside[e.To], e.From)
	}
	return f
}

// grow a tree from a root that isn't matched, till it is, or no edge leads on: then the tree stays.
func (f *forest) grow(root int) {
	f.tree, f.queue = f.tree[:0], f.queue[:0]
	f.give(root, outer)
	for at := 0; at < len(f.queue); at++ {
		u := f.queue[at]
		for _, v := range f.beside[u] {
			switch {
			case f.label[v] == free && f.mate[v] == none:
				f.turn(u, v)
				f.fell()
				return
			case f.label[v] == free:
				f.link[v] = u
				f.give(v, inner)
				f.give(f.mate[v], outer)
			case f.label[v] == outer && f.find(u) != f.find(v):
				f.shrink(u, v)
			}
		}
	}
}

func (f *forest) give(v, label int) {
	f.label[v] = label
	f.tree = append(f.tree, v)
	if label == outer {
		f.queue = append(f.queue, v)
	}
}

// fell: the tree's nodes are free again.
func (f *forest) fell() {
	for _, v := range f.tree {
		f.label[v], f.base[v] = free, v
	}
}

// turn matches v with u, whom u was matched with with the next one on the way back, and so on to the root.
func (f *forest) turn(u, v int) {
	for {
		left := f.mate[u]
		f.mate[u], f.mate[v] = v, u
		if left == none {
			return
		}
		u, v = f.link[left], left
	}
}

// find: the base of a node. The ways to it become shorter.
func (f *forest) find(v int) int {
	for f.base[v] != v {
		f.base[v] = f.base[f.base[v]]
		v = f.base[v]
	}
	return v
}

// shrink the circle that an edge between two outer nodes closes.
func (f *forest) shrink(u, v int) {
	base := f.meet(u, v)
	f.fold(u, v, base)
	f.fold(v, u, base)
}

// meet: the base at which the ways back from two outer nodes of one tree meet. A step is gone on either way in turn, so that no way is gone much farther than the circle reaches.
func (f *forest) meet(u, v int) int {
	u, v = f.find(u), f.find(v)
	f.meets++
	for {
		if u != none {
			if f.come[u] == f.meets {
				return u
			}
			f.come[u] = f.meets
			u = f.above(u)
		}
		u, v = v, u
	}
}

// above: the base two edges nearer to the root than another one; none, if that is the root's.
func (f *forest) above(base int) int {
	if f.mate[base] == none {
		return none
	}
	return f.find(f.link[f.mate[base]])
}

// fold: the way back from v to the base goes by it now. Each node on it can be left the other way round too, by the edge to beyond.
func (f *forest) fold(v, beyond, base int) {
	for f.find(v) != base {
		f.link[v] = beyond
		beyond = f.mate[v]
		if f.label[beyond] == inner {
			f.label[beyond] = outer
			f.queue = append(f.queue, beyond)
		}
		f.name(v, base)
		f.name(beyond, base)
		v = f.link[beyond]
	}
}

// name: the circle of a base goes by another base. That of any other node is left till the way comes to its base, so that it doesn't end ahead of that.
func (f *forest) name(v, base int) {
	if f.base[v] == v {
		f.base[v] = base
	}
}

// match: the edges of the matching; of several between two nodes the first one.
func (f *forest) match(g api.Graph) []int {
	var list []int
	told := make([]bool, g.Nodes)
	for i, e := range g.Edges {
		if f.mate[e.From] == e.To && !told[e.From] {
			told[e.From], told[e.To] = true, true
			list = append(list, i)
		}
	}
	return list
}

// near: the nodes that aren't outer ones and that an edge joins with one that is.
func (f *forest) near(g api.Graph) []int {
	is := make([]bool, g.Nodes)
	look := func(v, beside int) {
		if f.label[v] != outer && f.label[beside] == outer {
			is[v] = true
		}
	}
	for _, e := range g.Edges {
		look(e.From, e.To)
		look(e.To, e.From)
	}
	var list []int
	for v, near := range is {
		if near {
			list = append(list, v)
		}
	}
	return list
}
