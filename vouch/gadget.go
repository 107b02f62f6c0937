package vouch

import "compass/api"

// withoutLoops: how many edges are no loops.
func withoutLoops(g api.Graph) int {
	count := 0
	for _, e := range g.Edges {
		if !isLoop(e) {
			count++
		}
	}
	return count
}

// gadgetOf: the gadget of a right graph. Its size is told ahead, so that none is made that is too great.
func gadgetOf(g api.Graph, b []int) api.Graph {
	demandNumbers(b, g)
	copies := copiesOf(g, b)
	nodes, edges := gadgetSize(g, copies)
	demand(nodes <= api.MaxNodes && edges <= api.MaxEdges, api.ErrSize)
	first := make([]int, g.Nodes) // of each node's copies
	x := 0
	for v, count := range copies {
		first[v] = x
		x += count
	}
	made := api.Graph{Nodes: nodes}
	join := func(from, to int) { made.Edges = append(made.Edges, api.Edge{From: from, To: to}) }
	for _, e := range g.Edges {
		if isLoop(e) {
			continue
		}
		join(x, x+1)
		for k := range copies[e.From] {
			join(first[e.From]+k, x)
		}
		for k := range copies[e.To] {
			join(x+1, first[e.To]+k)
		}
		x += 2
	}
	return made
}

func demandNumbers(b []int, g api.Graph) {
	demand(len(b) == g.Nodes, api.ErrSupply)
	for _, number := range b {
		demand(number >= 0 && number <= api.MaxEdges, api.ErrSupply)
	}
}

// copiesOf: how many nodes of the gadget stand for each node of g: no more than could ever be matched.
func copiesOf(g api.Graph, b []int) []int {
	copies := make([]int, g.Nodes)
	for _, e := range g.Edges {
		if !isLoop(e) {
			copies[e.From]++
			copies[e.To]++
		}
	}
	for v := range copies {
		copies[v] = min(copies[v], b[v])
	}
	return copies
}

func gadgetSize(g api.Graph, copies []int) (nodes, edges int) {
	for _, count := range copies {
		nodes += count
	}
	for _, e := range g.Edges {
		if !isLoop(e) {
			nodes += 2
			edges += 1 + copies[e.From] + copies[e.To]
		}
	}
	return nodes, edges
}
