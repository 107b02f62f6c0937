package perfect

import (
	"slices"

	"compass/vouch"
)

// step goes from one node to another one along an edge.
type step struct{ from, to int }

// back: the same edge, gone along the other way.
func (s step) back() step { return step{from: s.to, to: s.from} }

// arc is a step with its edge's bound, which is twice its cost: a table has so many of them that they are kept small.
type arc struct {
	from, to int32
	bound    int64
}

func (a arc) step() step { return step{from: int(a.from), to: int(a.to)} }

// The labels of the flowers that lie in no other one.
const (
	free  = iota // in no tree
	outer        // an even number of edges leads from the root to it
	inner        // only an odd number does
)

// flower is a node alone, or an odd circle of flowers that is shrunk to one: its petals. All of its nodes but one, its base, are matched with one another.
type flower struct {
	nodes  []int
	base   int
	petals []*flower // as the circle goes, the one with the base first; none, if it is a node
	steps  []step    // from each petal to the next one. The first and the last one aren't matched, and of the others every other one is, from the second one on
	within *flower   // whose petal it is; nil, if nobody's
	half   int64     // half its weight, if it has petals
	arcs   []arc     // to each node beyond it, as far as edges lead there, one from its nodes that has the least slack. Another one doesn't come to have less as long as the flower stays whole

	label int
	root  int   // the node at which its tree begins
	entry step  // of an inner one: by which it was come to
	near  arc   // of an outer one: to another outer one, with the least slack
	slack int64 // half of that slack; far, if there is no such arc
	joins bool  // does that arc lead to another tree?
	come  int   // in which meeting it was come to last
}

// bind makes it an inner one of a tree, come to by a step.
func (f *flower) bind(by step, root int) { f.label, f.entry, f.root = inner, by, root }

// reach puts one more petal into the circle, to which a step leads from the last one.
func (f *flower) reach(by step, petal *flower) {
	f.steps = append(f.steps, by)
	f.petals = append(f.petals, petal)
}

// rotate lets the circle begin at a petal.
func (f *flower) rotate(at int) {
	f.petals = slices.Concat(f.petals[at:], f.petals[:at])
	f.steps = slices.Concat(f.steps[at:], f.steps[:at])
}

// turnRound lets the circle go the other way from where it begins.
func (f *flower) turnRound() {
	slices.Reverse(f.petals[1:])
	slices.Reverse(f.steps)
	for i, s := range f.steps {
		f.steps[i] = s.back()
	}
}

// shift: its nodes' weights become so much greater, if it is an outer one, and less, if it is an inner one.
func (f *flower) shift(by int64) {
	switch f.label {
	case outer:
		f.half += by
		f.slack -= by
	case inner:
		f.half -= by
	}
}

// sets: its nodes, and those of each flower that lies in it, with its weight; but for those without weight.
func (f *flower) sets() []vouch.Blossom {
	var list []vouch.Blossom
	if f.petals != nil && f.half > 0 {
		slices.Sort(f.nodes)
		list = append(list, vouch.Blossom{Nodes: f.nodes, Z: 2 * f.half})
	}
	for _, petal := range f.petals {
		list = append(list, petal.sets()...)
	}
	return list
}
