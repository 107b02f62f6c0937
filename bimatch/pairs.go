package bimatch

import (
	"slices"

	"compass/api"
)

// none stands where no edge and no level is.
const none = -1

// pairs is a matching between two sides, as it grows.
type pairs struct {
	near, far []int   // the ends of each edge: the one on the left side, the one on the right side
	at        [][]int // the edges at each node of the left side
	by        []int   // the edge that each node is matched by; none, if it is free
}

func newPairs(g api.Graph, left int) *pairs {
	p := &pairs{at: make([][]int, left), by: slices.Repeat([]int{none}, g.Nodes)}
	for i, e := range g.Edges {
		near, far := min(e.From, e.To), max(e.From, e.To)
		p.near, p.far = append(p.near, near), append(p.far, far)
		p.at[near] = append(p.at[near], i)
	}
	return p
}

func (p *pairs) free(v int) bool { return p.by[v] == none }

// mate: the node that one of the right side is matched with, which isn't free.
func (p *pairs) mate(far int) int { return p.near[p.by[far]] }

// take matches the ends of an edge; where one was matched with another node, that one is matched anew already, or is about to be.
func (p *pairs) take(i int) { p.by[p.near[i]], p.by[p.far[i]] = i, i }

// levels: for each node of the left side how many pairs, at least, are changed where it is left free and another one, free now, is matched; none, if that can't be. And from which level on a free node of the right side is come to; none, if no level comes to one. Levels beyond that are of no use, and not all are found.
func (p *pairs) levels() (level []int, last int) {
	level, last = slices.Repeat([]int{none}, len(p.at)), none
	var queue []int
	for v := range p.at {
		if p.free(v) {
			level[v] = 0
			queue = append(queue, v)
		}
	}
	for at := 0; at < len(queue) && last == none; at++ {
		v := queue[at]
		for _, i := range p.at[v] {
			switch far := p.far[i]; {
			case p.free(far):
				last = level[v]
			case level[p.mate(far)] == none:
				level[p.mate(far)] = level[v] + 1
				queue = append(queue, p.mate(far))
			}
		}
	}
	return level, last
}

func (p *pairs) match() []int {
	var list []int
	for i, v := range p.near {
		if p.by[v] == i {
			list = append(list, i)
		}
	}
	return list
}

// cover can be asked for when no more can be matched. Of each pair it takes the end on the right side, if the other one may be left free: then all edges of that one lead to nodes that were taken so.
func (p *pairs) cover() []int {
	level, _ := p.levels()
	var list []int
	for _, i := range p.match() {
		if level[p.near[i]] == none {
			list = append(list, p.near[i])
		} else {
			list = append(list, p.far[i])
		}
	}
	slices.Sort(list)
	return list
}
