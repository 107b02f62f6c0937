package graph

import (
	"slices"

	"compass/api"
)

// shape is what a net has of its graph, and what can be asked of it without a change.
type shape struct {
	nodes int
	edges []api.Edge
}

// shapeOf keeps edges of its own, so that whoever handed the graph in may go on with it.
func shapeOf(g api.Graph) shape { return shape{g.Nodes, slices.Clone(g.Edges)} }

// Nodes: how many nodes there are.
func (s *shape) Nodes() int { return s.nodes }

// Edges: how many edges there are.
func (s *shape) Edges() int { return len(s.edges) }

// Plain: the graph as plain data.
func (s *shape) Plain() api.Graph {
	return api.Graph{Nodes: s.nodes, Edges: slices.Clone(s.edges)}
}

func (s *shape) hasEdge(i int) bool { return i >= 0 && i < len(s.edges) }

// edgesAt: the numbers of the edges that are at node v in the way that is looked for.
func (s *shape) edgesAt(v int, wanted func(api.Edge) bool) ([]int, api.Errno) {
	if !isNode(v, s.nodes) {
		return nil, api.ErrNode
	}
	var found []int
	for i, e := range s.edges {
		if wanted(e) {
			found = append(found, i)
		}
	}
	return found, api.OK
}

func isNode(v, nodes int) bool { return v >= 0 && v < nodes }

// wrongEdge: what a graph of so many nodes can't take about an edge; OK, if nothing.
func wrongEdge(e api.Edge, nodes int) api.Errno {
	switch {
	case !isNode(e.From, nodes) || !isNode(e.To, nodes):
		return api.ErrNode
	case e.Cap < 0 || e.Cap > api.MaxLabel || e.Cost < -api.MaxLabel || e.Cost > api.MaxLabel:
		return api.ErrLabel
	}
	return api.OK
}

// without: the number of node u when node v is gone.
func without(v, u int) int {
	if u > v {
		return u - 1
	}
	return u
}
