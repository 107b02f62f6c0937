package span

import (
	"compass/api"
	"compass/heaps"
)

// No two edges stand at one place in order, so there is but one cheapest forest, and each of these ways finds it: an edge that is first among those that lead out of some set of nodes belongs to it.

// kruskal takes the edges in order.
func (j *joiner) kruskal() {
	for _, i := range j.order {
		j.take(i)
	}
}

// prim grows one tree after the other, by the first edge that leads out of it. The queue holds the nodes beside the tree, each by the place of the first edge to it.
func (j *joiner) prim() {
	queue, _ := heaps.New(heaps.Pairing, j.g.Nodes)
	beside := j.besides()
	in := make([]bool, j.g.Nodes)
	enter := func(v int) {
		in[v] = true
		for _, b := range beside[v] {
			if in[b.node] {
				continue
			}
			if queue.Push(b.node, b.place) == api.ErrHeld {
				queue.Lower(b.node, b.place) // refused where the node has an edge ahead of this one
			}
		}
	}
	for root := range j.g.Nodes {
		if in[root] {
			continue
		}
		enter(root)
		for queue.Len() > 0 {
			v, place, _ := queue.Pop()
			j.take(j.order[place])
			enter(v)
		}
	}
}

// neighbour is a node that an edge leads to, and that edge's place in order.
type neighbour struct {
	node  int
	place int64
}

func (j *joiner) besides() [][]neighbour {
	beside := make([][]neighbour, j.g.Nodes)
	for place, i := range j.order {
		e := j.g.Edges[i]
		beside[e.From] = append(beside[e.From], neighbour{e.To, int64(place)})
		beside[e.To] = append(beside[e.To], neighbour{e.From, int64(place)})
	}
	return beside
}

// boruvka takes for all sets at once the first edge that leads out of each, again and again. Each round leaves at most half of the sets that have such an edge.
func (j *joiner) boruvka() {
	for {
		leading := j.leadingOut()
		if len(leading) == 0 {
			return
		}
		for _, i := range leading {
			j.take(i)
		}
	}
}

// leadingOut: the edges that are the first in order to lead out of a set.
func (j *joiner) leadingOut() []int {
	var leading []int
	found := make([]bool, j.g.Nodes) // by the sets' least nodes
	for _, i := range j.order {
		u, _ := j.Find(j.g.Edges[i].From)
		v, _ := j.Find(j.g.Edges[i].To)
		if u != v && (!found[u] || !found[v]) {
			leading = append(leading, i)
			found[u], found[v] = true, true
		}
	}
	return leading
}
