package vouch

import "compass/api"

// everyEdge: the numbers of all edges.
func everyEdge(g api.Graph) []int {
	list := make([]int, len(g.Edges))
	for i := range list {
		list[i] = i
	}
	return list
}

// oddEnds: the nodes, rising, at which an odd number of ends of these edges lies.
func oddEnds(edges []int, g api.Graph) []int {
	odd := make([]bool, g.Nodes)
	for _, i := range edges {
		e := g.Edges[i]
		odd[e.From] = !odd[e.From]
		odd[e.To] = !odd[e.To] // of a loop both ends: it changes nothing
	}
	var list []int
	for v, is := range odd {
		if is {
			list = append(list, v)
		}
	}
	return list
}

// mustBeMetric: there must be a row for each uneven node that puts no node farther from it than any way there costs. Along a way a row grows at most by what its edges cost.
func mustBeMetric(dist [][]int64, uneven []int, g api.Graph) {
	must(len(dist) == len(uneven))
	for i, row := range dist {
		mustBeWeights(row, g.Nodes)
		must(row[uneven[i]] == 0)
		for _, e := range g.Edges {
			apart := row[e.From] - row[e.To]
			must(-e.Cost <= apart && apart <= e.Cost)
		}
	}
}
