package perfect

import "slices"

// advance changes the weights as much as lets something be done, and does that.
func (f *forest) advance() {
	v, by := f.next()
	f.shift(by)
	switch flower := f.top[v]; flower.label {
	case free:
		f.grow(flower, f.over[v].step())
	case inner:
		f.open(flower)
	default:
		f.close(flower.near.step())
	}
}

// next: where something can be done at the least change of weights, and that change. A free node may be come to, an outer flower may be joined with another one, an inner one whose weight is gone may be opened.
func (f *forest) next() (node int, by int64) {
	by = far
	least := func(v int, change int64, ahead bool) {
		if change < by || change == by && ahead {
			node, by = v, change
		}
	}
	for v, flower := range f.top {
		switch {
		case flower.label == free:
			least(v, f.slack[v], false)
		case flower.base != v:
			continue
		case flower.label == outer:
			least(v, flower.slack, flower.joins)
		case flower.petals != nil:
			least(v, flower.half, false)
		}
	}
	return node, by
}

// shift gives so much to the nodes of outer flowers and takes it from those of inner ones.
func (f *forest) shift(by int64) {
	for v, flower := range f.top {
		switch flower.label {
		case free:
			f.slack[v] -= by
		case outer:
			f.weight[v] += by
		case inner:
			f.weight[v] -= by
		}
		if flower.base == v {
			flower.shift(by)
		}
	}
}

// grow: a tree has a free flower now, and the one that this is matched with.
func (f *forest) grow(flower *flower, by step) {
	root := f.top[by.from].root
	flower.bind(by, root)
	f.add(f.top[f.mate[flower.base]], root)
}

// close what a step between two outer flowers does: a way from root to root, along which one edge more is matched, or a circle.
func (f *forest) close(s step) {
	from, to := f.top[s.from], f.top[s.to]
	if from.root == to.root {
		f.shrink(f.circle(s, f.meet(from, to)))
		return
	}
	f.turn(s)
	f.turn(s.back())
	f.fell(from.root, to.root)
}

// fell two trees, whose flowers are free then. What was known by their outer flowers is found anew.
func (f *forest) fell(first, second int) {
	felled := func(flower *flower) bool { return flower.root == first || flower.root == second }
	for _, flower := range f.top {
		if felled(flower) {
			flower.label = free
		}
	}
	for v, flower := range f.top {
		switch {
		case flower.label != outer:
			if felled(flower) || f.top[f.over[v].from].label != outer {
				f.look(v)
			}
		case flower.base == v && f.top[flower.near.to].label != outer:
			f.spread(flower)
		}
	}
}

// held: the inner flower that an outer one is matched with.
func (f *forest) held(by *flower) *flower { return f.top[f.mate[by.base]] }

// above: the outer flower next to another one on the way to the root; nil, if that is the root's.
func (f *forest) above(from *flower) *flower {
	if f.mate[from.base] == none {
		return nil
	}
	return f.top[f.held(from).entry.from]
}

// meet: the outer flower at which the ways to the root from two of one tree meet. A step is gone on either way in turn, so that no way is gone much farther than the circle reaches.
func (f *forest) meet(one, other *flower) *flower {
	f.meets++
	for {
		if one != nil {
			if one.come == f.meets {
				return one
			}
			one.come = f.meets
			one = f.above(one)
		}
		one, other = other, one
	}
}

// line: the outer flowers on the way from one to the root, till it comes to another one.
func (f *forest) line(from, end *flower) []*flower {
	var line []*flower
	for ; from != end; from = f.above(from) {
		line = append(line, from)
	}
	return line
}

// circle: what a step closes between two outer flowers, the ways from which meet at another one.
func (f *forest) circle(s step, first *flower) *flower {
	made := &flower{base: first.base, root: first.root, petals: []*flower{first}}
	down := f.line(f.top[s.from], first)
	for _, petal := range slices.Backward(down) {
		held := f.held(petal)
		made.reach(held.entry, held)
		made.reach(step{from: f.mate[petal.base], to: petal.base}, petal)
	}
	for _, petal := range f.line(f.top[s.to], first) {
		held := f.held(petal)
		made.reach(s, petal)
		made.reach(step{from: petal.base, to: f.mate[petal.base]}, held)
		s = held.entry.back()
	}
	made.steps = append(made.steps, s)
	return made
}

// shrink a circle: it is an outer flower.
func (f *forest) shrink(circle *flower) {
	for _, petal := range circle.petals {
		petal.within = circle
		circle.nodes = append(circle.nodes, petal.nodes...)
	}
	for _, v := range circle.nodes {
		f.top[v] = circle
	}
	circle.arcs = f.gather(circle)
	f.add(circle, circle.root)
}

// open an inner flower: its petals are flowers of their own. Those on the way of even length from where it was come to to its base are in the tree, the others are free.
func (f *forest) open(flower *flower) {
	for _, petal := range flower.petals {
		petal.within, petal.label = nil, free
		for _, v := range petal.nodes {
			f.top[v] = petal
		}
	}
	at, end := slices.Index(flower.petals, f.top[flower.entry.to]), len(flower.petals)
	if at%2 == 0 {
		flower.turnRound()
		at = end - at
	}
	by := flower.entry
	for ; at < end; at += 2 {
		flower.petals[at].bind(by, flower.root)
		f.add(flower.petals[at+1], flower.root)
		by = flower.steps[at+1]
	}
	flower.petals[0].bind(by, flower.root)
}

// turn matches along a step to another tree, and anew along the way back to the root.
func (f *forest) turn(s step) {
	for {
		from := f.top[s.from]
		left := f.mate[from.base]
		f.rebase(from, s.from)
		f.mate[s.from] = s.to
		if left == none {
			return
		}
		held := f.top[left]
		s = held.entry
		f.rebase(held, s.to)
		f.mate[s.to] = s.from
	}
}

// rebase: all nodes of a flower but this one are matched with one another.
func (f *forest) rebase(in *flower, base int) {
	if in.base == base {
		return
	}
	in.base = base
	petal := f.leaf[base]
	for petal.within != in {
		petal = petal.within
	}
	f.rebase(petal, base)
	in.rotate(slices.Index(in.petals, petal))
	for i := 1; i < len(in.petals); i += 2 {
		s := in.steps[i]
		f.rebase(in.petals[i], s.from)
		f.rebase(in.petals[i+1], s.to)
		f.pair(s)
	}
}
