package short

import (
	"slices"

	"compass/api"
	"compass/graph"
	"compass/heaps"
)

// none stands where no node and no edge is.
const none = -1

func isNode(v int, g api.Graph) bool { return v >= 0 && v < g.Nodes }

// wrongStart: what can't be taken about a graph and the node that ways begin at; OK, if nothing.
func wrongStart(g api.Graph, s int) api.Errno {
	if code := graph.Check(g).Code; code != api.OK {
		return code
	}
	if !isNode(s, g) {
		return api.ErrNode
	}
	return api.OK
}

// bare: a tree of so many nodes, none of them reached.
func bare(nodes int) Tree {
	return Tree{slices.Repeat([]int64{Far}, nodes), slices.Repeat([]int{none}, nodes)}
}

func treeFrom(s, nodes int) Tree {
	tree := bare(nodes)
	tree.Dist[s] = 0
	return tree
}

// outOf: for each node the numbers of the edges that go out of it.
func outOf(g api.Graph) [][]int {
	out := make([][]int, g.Nodes)
	for i, e := range g.Edges {
		out[e.From] = append(out[e.From], i)
	}
	return out
}

// better takes edge number i as the last one of the way to its To, if that becomes cheaper so: does it?
func (t *Tree) better(i int, e api.Edge) bool {
	from := t.Dist[e.From]
	if from == Far || from+e.Cost >= t.Dist[e.To] {
		return false
	}
	t.Dist[e.To], t.Via[e.To] = from+e.Cost, i
	return true
}

// grow takes the nodes by their distances. No edge costs less than nothing, so none that was taken becomes nearer, and no key is below the last one that the queue gave out.
func (t *Tree) grow(g api.Graph, queue *heaps.Queue, s int) {
	out := outOf(g)
	queue.Push(s, 0)
	for queue.Len() > 0 {
		v, _, _ := queue.Pop()
		for _, i := range out[v] {
			e := g.Edges[i]
			if !t.better(i, e) {
				continue
			}
			if queue.Push(e.To, t.Dist[e.To]) == api.ErrHeld {
				queue.Lower(e.To, t.Dist[e.To])
			}
		}
	}
}

// relax takes all edges again and again, till no way becomes cheaper. A cheapest way has fewer edges than there are nodes, and behind round k none of up to k edges is missed: if the last round still changes something, the answer is a node that it changed; else none.
func (t *Tree) relax(g api.Graph) int {
	changed := none
	for range g.Nodes {
		changed = none
		for i, e := range g.Edges {
			if t.better(i, e) {
				changed = e.To
			}
		}
		if changed == none {
			break
		}
	}
	return changed
}

// circleBehind: the circle that going back from v by Via ends in, where v was changed in the last round of relax. What an edge changes in a round had its From changed in that round or the one ahead of it: so one can go back as often as there are nodes, and goes round by then. And Via goes round only where that costs less than nothing.
func (t *Tree) circleBehind(v int, g api.Graph) []int {
	for range g.Nodes {
		v = g.Edges[t.Via[v]].From
	}
	circle := []int{t.Via[v]}
	for u := g.Edges[t.Via[v]].From; u != v; u = g.Edges[t.Via[u]].From {
		circle = append(circle, t.Via[u])
	}
	slices.Reverse(circle)
	return circle
}

func (t *Tree) wayTo(v int, g api.Graph) []int {
	var way []int
	for t.Via[v] != none {
		way = append(way, t.Via[v])
		v = g.Edges[t.Via[v]].From
	}
	slices.Reverse(way)
	return way
}
