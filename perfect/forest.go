package perfect

import (
	"cmp"
	"math"
	"slices"

	"compass/vouch"
)

// none stands where no node and no arc is.
const none = -1

// far is more than any slack.
const far = math.MaxInt64

// forest is a matching as it grows, a tree from each node that isn't matched yet, and weights of nodes and flowers. A tree's flowers are outer and inner ones in turn, and each inner one is matched with an outer one beyond it.
//
// The slack of an edge is its bound less the weights of its ends. Between flowers it is never below 0, and it is 0 where they are matched or joined in a tree. Within flowers it may be below 0, but not by more than the flowers weigh, and by just that on their circles. So a matching of all nodes costs least.
//
// The nodes in trees have weights that are all even or all odd: they begin as even ones, all roots change by as much, and an edge without slack joins even with even and odd with odd. So half the slack between two outer flowers is whole.
//
// Weights stay small: none changes by more than a root's, and those of two roots together are no more than the edges that could be matched on a way between them cost, less those that are matched there, doubled.
type forest struct {
	weight []int64   // of each node
	mate   []int     // whom each node is matched with; none, if with nobody
	leaf   []*flower // each node alone
	top    []*flower // the flower in which each node lies and which lies in no other one
	over   []arc     // to each node of no outer flower, from an outer one with the least slack
	slack  []int64   // that slack; far, if no such arc leads there
	spot   []int     // where a list that is being made has its arc to each node
	meets  int       // how many meetings of ways back there were
}

func newForest(nodes int) *forest {
	f := &forest{weight: make([]int64, nodes), over: make([]arc, nodes)}
	f.mate, f.spot = slices.Repeat([]int{none}, nodes), slices.Repeat([]int{none}, nodes)
	f.slack = slices.Repeat([]int64{far}, nodes)
	for v := range nodes {
		f.leaf = append(f.leaf, &flower{nodes: []int{v}, base: v})
	}
	f.top = slices.Clone(f.leaf)
	return f
}

// join two nodes by an edge.
func (f *forest) join(u, v int, cost int64) {
	f.leaf[u].arcs = append(f.leaf[u].arcs, arc{int32(u), int32(v), 2 * cost})
	f.leaf[v].arcs = append(f.leaf[v].arcs, arc{int32(v), int32(u), 2 * cost})
}

// fill matches all nodes. It must be known that this can be done.
func (f *forest) fill() {
	f.begin()
	f.plant()
	for slices.Contains(f.mate, none) {
		f.advance()
	}
}

// begin gives all nodes even weights that leave no slack below 0 and each node an edge without any, and matches along such edges as they come.
func (f *forest) begin() {
	for v, leaf := range f.leaf {
		cheapest := slices.MinFunc(leaf.arcs, func(a, b arc) int { return cmp.Compare(a.bound, b.bound) })
		f.weight[v] = cheapest.bound / 2 &^ 1
	}
	for v, leaf := range f.leaf {
		tight := slices.MinFunc(leaf.arcs, func(a, b arc) int { return cmp.Compare(f.left(a), f.left(b)) })
		f.weight[v] += f.left(tight)
	}
	for v, leaf := range f.leaf {
		for _, a := range leaf.arcs {
			if f.left(a) == 0 && f.mate[v] == none && f.mate[a.to] == none {
				f.pair(a.step())
			}
		}
	}
}

// plant: a tree begins at each node that isn't matched.
func (f *forest) plant() {
	for v, mate := range f.mate {
		if mate == none {
			f.add(f.top[v], v)
		}
	}
}

// left: the slack of an arc between two flowers.
func (f *forest) left(a arc) int64 { return a.bound - f.weight[a.from] - f.weight[a.to] }

// pair matches along a step.
func (f *forest) pair(s step) { f.mate[s.from], f.mate[s.to] = s.to, s.from }

// add a flower to a tree, as an outer one.
func (f *forest) add(flower *flower, root int) {
	flower.label, flower.root = outer, root
	f.spread(flower)
}

// spread tells the nodes of no outer flower how near an outer one is now, and the flower how near the other outer ones are. Of arcs with as little slack one to another tree is taken: by it more can be matched at once.
func (f *forest) spread(from *flower) {
	from.slack, from.joins = far, false
	for _, a := range from.arcs {
		to, left := f.top[a.to], f.left(a)
		switch {
		case to == from:
			continue
		case to.label != outer:
			if left < f.slack[a.to] {
				f.slack[a.to], f.over[a.to] = left, a
			}
		case left/2 < from.slack || left/2 == from.slack && to.root != from.root:
			from.slack, from.near, from.joins = left/2, a, to.root != from.root
		}
	}
}

// look finds anew how near an outer flower is to a node of none.
func (f *forest) look(v int) {
	f.slack[v] = far
	for _, a := range f.leaf[v].arcs {
		if left := f.left(a); f.top[a.to].label == outer && left < f.slack[v] {
			f.slack[v], f.over[v] = left, arc{a.to, a.from, a.bound}
		}
	}
}

// gather: the arcs of a flower's petals to nodes beyond it, to each node one that has the least slack.
func (f *forest) gather(from *flower) []arc {
	list := make([]arc, 0, len(f.top)-len(from.nodes))
	for _, petal := range from.petals {
		for _, a := range petal.arcs {
			if f.top[a.to] == from {
				continue
			}
			if at := f.spot[a.to]; at == none {
				f.spot[a.to] = len(list)
				list = append(list, a)
			} else if f.left(a) < f.left(list[at]) {
				list[at] = a
			}
		}
	}
	for _, a := range list {
		f.spot[a.to] = none
	}
	return list
}

// duals: the weights, when all nodes are matched.
func (f *forest) duals() vouch.Duals {
	d := vouch.Duals{Y: f.weight}
	for v, flower := range f.top {
		if flower.base == v {
			d.Sets = append(d.Sets, flower.sets()...)
		}
	}
	return d
}
