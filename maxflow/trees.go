package maxflow

import "compass/links"

// trees goes by the same levels as dinic, but keeps the ways that it has found in a forest: a node hangs on the one that it leads to, by an edge whose value is what is left of the arc. So what a way can take is found, and sent along it, at once.
type trees struct {
	*net
	forest *links.Forest
	via    []int // the arc by which each node hangs; none, if it is a root. What is left of such an arc stands in the forest alone.
}

func newTrees(n *net) *trees {
	forest, _ := links.New(len(n.out)) // a right graph has no more nodes than a forest may have
	t := &trees{net: n, forest: forest, via: make([]int, len(n.out))}
	for v := range t.via {
		t.via[v] = none
	}
	return t
}

func (t *trees) fill() {
	for t.settle() {
		t.fillLevels()
		for v, a := range t.via {
			if a != none {
				t.loosen(v)
			}
		}
	}
}

// fillLevels makes the way from the source longer at its root, till that is the sink, or no arc leads on from it: then nothing does that leads to it.
func (t *trees) fillLevels() {
	for {
		v, _ := t.forest.Root(t.source)
		if v == t.sink {
			t.sendAll()
			continue
		}
		a := t.lead(v)
		switch {
		case a != none:
			t.hang(v, a)
		case v == t.source:
			return
		default:
			t.shut(v)
		}
	}
}

func (t *trees) hang(v, a int) {
	t.forest.Link(v, t.end[a], t.left[a])
	t.via[v] = a
}

// loosen: v hangs no more, and what went through the arc is written down.
func (t *trees) loosen(v int) {
	a := t.via[v]
	left, _ := t.forest.Cut(v)
	t.send(a, t.left[a]-left)
	t.via[v] = none
}

// shut: no arc leads to v any more.
func (t *trees) shut(v int) {
	for _, a := range t.out[v] {
		if u := t.end[a]; t.via[u] == a^1 {
			t.loosen(u)
		}
	}
	t.level[v] = 2 * t.beyond()
}

// sendAll sends what the way from the source to the sink can take; what is full by that hangs no more.
func (t *trees) sendAll() {
	_, most, _ := t.forest.Least(t.source)
	t.forest.Add(t.source, -most)
	for v, left := t.least(); v != none && left == 0; v, left = t.least() {
		t.loosen(v)
	}
}

// least: on the way from the source, the node whose arc has the least left, and how much; none, if the source is a root.
func (t *trees) least() (int, int64) {
	if t.via[t.source] == none {
		return none, 0
	}
	v, left, _ := t.forest.Least(t.source)
	return v, left
}
