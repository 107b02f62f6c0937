// Package trial holds what the tests of several layers need: scattered numbers, graphs made of them, all small lists and graphs, wrong graphs, and guards of memory.
package trial

import (
	"iter"
	"slices"

	"compass/api"
)

// Scatter is a row of numbers that look scattered and are the same in each run.
type Scatter struct{ state uint64 }

// NewScatter: a row of its own for each seed.
func NewScatter(seed uint64) *Scatter { return &Scatter{88172645463325252 ^ seed<<1} }

// Next: 64 bits.
func (s *Scatter) Next() uint64 {
	s.state ^= s.state << 13
	s.state ^= s.state >> 7
	s.state ^= s.state << 17
	return s.state
}

// Below: a number from 0 on, below n.
func (s *Scatter) Below(n int) int { return int(s.Next() >> 11 % uint64(n)) }

// Between: a number from least to most.
func (s *Scatter) Between(least, most int) int { return least + s.Below(most-least+1) }

// Edge: an edge of a right graph of so many nodes, at times with labels at their limits.
func (s *Scatter) Edge(nodes int) api.Edge {
	e := api.Edge{From: s.Below(nodes), To: s.Below(nodes)}
	e.Cap = int64(s.Between(0, api.MaxLabel))
	e.Cost = int64(s.Between(-api.MaxLabel, api.MaxLabel))
	switch s.Below(8) {
	case 0:
		e.Cap, e.Cost = api.MaxLabel, -api.MaxLabel
	case 1:
		e.Cap, e.Cost = 0, api.MaxLabel
	}
	return e
}

// Graph: a right graph of so many nodes and edges.
func (s *Scatter) Graph(nodes, edges int) api.Graph {
	g := api.Graph{Nodes: nodes}
	for range edges {
		g.Edges = append(g.Edges, s.Edge(nodes))
	}
	return g
}

// AllGraphs: each graph of so many nodes and edges, with labels of 0. One that is handed over is nobody else's.
func AllGraphs(nodes, edges int) iter.Seq[api.Graph] {
	count := 1
	for range edges {
		count *= nodes * nodes
	}
	return func(take func(api.Graph) bool) {
		for number := range count {
			g := api.Graph{Nodes: nodes}
			for range edges {
				ends := number % (nodes * nodes)
				number /= nodes * nodes
				g.Edges = append(g.Edges, api.Edge{From: ends / nodes, To: ends % nodes})
			}
			if !take(g) {
				return
			}
		}
	}
}

// SimpleGraphs: each graph of so many nodes without loops and with one edge at most between two, with labels of 0. One that is handed over is nobody else's.
func SimpleGraphs(nodes int) iter.Seq[api.Graph] {
	var pairs []api.Edge
	for v := range nodes {
		for u := range v {
			pairs = append(pairs, api.Edge{From: u, To: v})
		}
	}
	return func(take func(api.Graph) bool) {
		for list := range Subsets(len(pairs)) {
			g := api.Graph{Nodes: nodes}
			for _, i := range list {
				g.Edges = append(g.Edges, pairs[i])
			}
			if !take(g) {
				return
			}
		}
	}
}

// Lists: each list of so many numbers from least to most. One that is handed over is nobody else's.
func Lists[T int | int64](length int, least, most T) iter.Seq[[]T] {
	return func(take func([]T) bool) {
		list := slices.Repeat([]T{least}, length)
		for take(slices.Clone(list)) {
			at := 0
			for at < length && list[at] == most {
				list[at] = least
				at++
			}
			if at == length {
				return
			}
			list[at]++
		}
	}
}

// Sides: each list of so many bools. One that is handed over is nobody else's.
func Sides(length int) iter.Seq[[]bool] {
	return func(take func([]bool) bool) {
		for number := range 1 << length {
			side := make([]bool, length)
			for v := range side {
				side[v] = number>>v&1 == 1
			}
			if !take(side) {
				return
			}
		}
	}
}

// Subsets: each list of rising numbers from 0 on, below n. One that is handed over is nobody else's.
func Subsets(n int) iter.Seq[[]int] {
	return func(take func([]int) bool) {
		for side := range Sides(n) {
			var list []int
			for v, in := range side {
				if in {
					list = append(list, v)
				}
			}
			if !take(list) {
				return
			}
		}
	}
}

// Small: a right graph of so many nodes and edges, with capacities from 0 to mostCap and costs from leastCost to mostCost.
func (s *Scatter) Small(nodes, edges, mostCap, leastCost, mostCost int) api.Graph {
	g := api.Graph{Nodes: nodes}
	for range edges {
		e := api.Edge{From: s.Below(nodes), To: s.Below(nodes)}
		e.Cap = int64(s.Between(0, mostCap))
		e.Cost = int64(s.Between(leastCost, mostCost))
		g.Edges = append(g.Edges, e)
	}
	return g
}

// Sided: a right graph of so many nodes and edges, each edge between a node below left and one from left on, with costs from leastCost to mostCost.
func (s *Scatter) Sided(nodes, left, edges, leastCost, mostCost int) api.Graph {
	g := s.Small(nodes, edges, 1, leastCost, mostCost)
	for i := range g.Edges {
		e := &g.Edges[i]
		e.From, e.To = s.Below(left), s.Between(left, nodes-1)
		if s.Below(2) == 0 {
			e.From, e.To = e.To, e.From
		}
	}
	return g
}

// Wrong is a graph that isn't right, and what is wrong with it.
type Wrong struct {
	Graph api.Graph
	Fault api.Fault
}

// WrongGraphs: a graph of each kind that graph.Check refuses, with the faults that others are named ahead of.
func WrongGraphs() []Wrong {
	const big, small = 1<<63 - 1, -1 << 63
	over := make([]api.Edge, api.MaxEdges+1)
	right := api.Edge{From: 1, To: 0, Cap: 1, Cost: 1}
	list := []Wrong{
		{api.Graph{Nodes: -1}, api.Fault{Code: api.ErrSize}},
		{api.Graph{Nodes: small}, api.Fault{Code: api.ErrSize}},
		{api.Graph{Nodes: api.MaxNodes + 1}, api.Fault{Code: api.ErrSize}},
		{api.Graph{Nodes: big, Edges: []api.Edge{right}}, api.Fault{Code: api.ErrSize}},
		{api.Graph{Nodes: 1, Edges: over}, api.Fault{Code: api.ErrSize}},
		{api.Graph{Nodes: 0, Edges: over}, api.Fault{Code: api.ErrSize}},
		{api.Graph{Nodes: -1, Edges: []api.Edge{{From: -1, Cap: -1}}}, api.Fault{Code: api.ErrSize}},
		{api.Graph{Nodes: 0, Edges: []api.Edge{{}}}, api.Fault{Code: api.ErrNode}},
	}
	refuse := func(code api.Errno, e api.Edge) {
		label := api.Edge{Cap: -1}
		list = append(list,
			Wrong{api.Graph{Nodes: 2, Edges: []api.Edge{e, label, {From: 2}}}, api.Fault{Code: code}},
			Wrong{api.Graph{Nodes: 2, Edges: []api.Edge{right, {}, e, label, {To: 2}}}, api.Fault{Code: code, At: 2}})
	}
	for _, v := range []int{-1, 2, 3, big, small} {
		refuse(api.ErrNode, api.Edge{From: v})
		refuse(api.ErrNode, api.Edge{To: v})
		refuse(api.ErrNode, api.Edge{From: v, To: v, Cap: -1, Cost: small})
	}
	for _, label := range []int64{api.MaxLabel + 1, big, small, -api.MaxLabel - 1} {
		refuse(api.ErrLabel, api.Edge{Cap: label})
		refuse(api.ErrLabel, api.Edge{From: 1, Cost: label})
	}
	refuse(api.ErrLabel, api.Edge{Cap: -1, To: 1})
	return list
}

// Watched: a copy of a list, with spare room behind it, and a function that says whether both are as they were.
func Watched[T comparable](list []T, room T) (watched []T, same func() bool) {
	whole := append(slices.Clone(list), room, room, room)
	before := slices.Clone(whole)
	return whole[:len(list)], func() bool { return slices.Equal(whole, before) }
}

// Spoil writes over a list and its spare room.
func Spoil[T any](list []T, with T) {
	whole := list[:cap(list)]
	for i := range whole {
		whole[i] = with
	}
}
