package walk

import (
	"slices"

	"compass/api"
)

// unset: a list for so many nodes of which nothing is known yet.
func unset(nodes int) []int { return slices.Repeat([]int{-1}, nodes) }

func nodesUpTo(nodes int) []int {
	list := make([]int, nodes)
	for v := range list {
		list[v] = v
	}
	return list
}

// nextOf: for each node where its edges lead, in the order of their numbers.
func nextOf(g api.Graph) [][]int {
	next := make([][]int, g.Nodes)
	for _, e := range g.Edges {
		next[e.From] = append(next[e.From], e.To)
	}
	return next
}

// flood goes on from s along all edges, the nearest nodes first; enter says whether the node that an edge leads to is new.
func flood(next [][]int, s int, enter func(from, to int) bool) {
	queue := []int{s}
	for at := 0; at < len(queue); at++ {
		v := queue[at]
		for _, to := range next[v] {
			if enter(v, to) {
				queue = append(queue, to)
			}
		}
	}
}

// partsFrom: each root that is in no part yet makes one, of all that can be come to from it and is in none either.
func partsFrom(roots []int, next [][]int) []int {
	part := unset(len(roots))
	for _, root := range roots {
		if part[root] >= 0 {
			continue
		}
		part[root] = root
		flood(next, root, func(from, to int) bool {
			if part[to] >= 0 {
				return false
			}
			part[to] = root
			return true
		})
	}
	return numbered(part)
}

// numbered: the parts, named by any of their nodes, with numbers in the order of their least nodes.
func numbered(part []int) []int {
	number := unset(len(part))
	count := 0
	for v, name := range part {
		if number[name] < 0 {
			number[name] = count
			count++
		}
		part[v] = number[name]
	}
	return part
}

// circleWithout: edges that make a circle, away from the nodes that have come. Each other node has an edge in from one of its kind, so these edges can be gone back along without end.
func circleWithout(come []bool, g api.Graph) []int {
	into := make([]int, g.Nodes)
	v := 0
	for i, e := range g.Edges {
		if !come[e.From] { // then To hasn't come either
			into[e.To] = i
			v = e.To
		}
	}
	for range g.Nodes { // whoever goes back so often goes round at last
		v = g.Edges[into[v]].From
	}
	circle := []int{into[v]}
	for u := g.Edges[into[v]].From; u != v; u = g.Edges[into[u]].From {
		circle = append(circle, into[u])
	}
	slices.Reverse(circle)
	return circle
}
