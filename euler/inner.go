package euler

import (
	"slices"

	"compass/api"
)

// none stands where no node is.
const none = -1

// ends: where a step begins, and where it ends.
func (s Step) ends(g api.Graph) (begin, end int) {
	e := g.Edges[s.Edge]
	if s.Back {
		return e.To, e.From
	}
	return e.From, e.To
}

// uneven: the least node that a walk can't leave as often as it comes to it; none, if there is none.
func uneven(g api.Graph, directed bool) int {
	out, in := make([]int, g.Nodes), make([]int, g.Nodes)
	for _, e := range g.Edges {
		out[e.From]++
		in[e.To]++
	}
	for v := range g.Nodes {
		if directed && out[v] != in[v] || (out[v]+in[v])%2 != 0 {
			return v
		}
	}
	return none
}

// nodesWithEdges: the nodes that are an end of an edge, rising.
func nodesWithEdges(g api.Graph) []int {
	var list []int
	for _, e := range g.Edges {
		list = append(list, e.From, e.To)
	}
	slices.Sort(list)
	return slices.Compact(list)
}

// stepsFrom: for each node the steps that may begin there.
func stepsFrom(g api.Graph, directed bool) [][]Step {
	from := make([][]Step, g.Nodes)
	for i, e := range g.Edges {
		from[e.From] = append(from[e.From], Step{Edge: i})
		if !directed {
			from[e.To] = append(from[e.To], Step{Edge: i, Back: true})
		}
	}
	return from
}

// roundFrom: steps over all edges of a graph without an uneven node, whose edges hang together. Whoever goes on from a node by edges that weren't taken can't get stuck but at that node itself. So from start one comes back to it; then, step by step backward, a step is done with if nothing is left to be taken where it ends, and else a round from there goes in behind it.
func roundFrom(start int, g api.Graph, directed bool) []Step {
	ahead := stepsFrom(g, directed)
	taken := make([]bool, len(g.Edges))
	var open, done []Step // done: the last step of the walk first
	v := start
onward:
	for {
		for len(ahead[v]) > 0 {
			s := ahead[v][0]
			ahead[v] = ahead[v][1:]
			if !taken[s.Edge] {
				taken[s.Edge] = true
				open = append(open, s)
				_, v = s.ends(g)
				continue onward
			}
		}
		if len(open) == 0 {
			break
		}
		s := open[len(open)-1]
		open = open[:len(open)-1]
		done = append(done, s)
		v, _ = s.ends(g)
	}
	slices.Reverse(done)
	return done
}
