package vouch_test

import (
	"math"
	"slices"
	"testing"

	"compass/api"
	"compass/trial"
	"compass/vouch"
)

// gadgetWords: P12.4, word by word; without ErrSize.
func gadgetWords(g api.Graph, b []int) api.Graph {
	var made api.Graph
	of := make([][]int, g.Nodes)
	for v := range g.Nodes {
		at := 0
		for _, e := range g.Edges {
			if !isLoop(e) && (e.From == v || e.To == v) {
				at++
			}
		}
		for range min(at, b[v]) {
			of[v] = append(of[v], made.Nodes)
			made.Nodes++
		}
	}
	for _, e := range g.Edges {
		if isLoop(e) {
			continue
		}
		x := made.Nodes
		made.Nodes += 2
		made.Edges = append(made.Edges, api.Edge{From: x, To: x + 1})
		for _, v := range of[e.From] {
			made.Edges = append(made.Edges, api.Edge{From: v, To: x})
		}
		for _, v := range of[e.To] {
			made.Edges = append(made.Edges, api.Edge{From: x + 1, To: v})
		}
	}
	return made
}

func sameGraph(a, b api.Graph) bool { return a.Nodes == b.Nodes && slices.Equal(a.Edges, b.Edges) }

func isNothing(g api.Graph) bool { return g.Nodes == 0 && len(g.Edges) == 0 }

func TestP12_4Gadget(t *testing.T) {
	g := api.Graph{Nodes: 3, Edges: []api.Edge{{From: 0, To: 1, Cap: 4, Cost: 2}, {From: 1, To: 1, Cap: 1}, {From: 1, To: 2, Cost: -3}}}
	want := joined(7, [2]int{3, 4}, [2]int{0, 3}, [2]int{4, 1}, [2]int{4, 2}, [2]int{5, 6}, [2]int{1, 5}, [2]int{2, 5})
	if got, code := vouch.Gadget(g, []int{1, 5, 0}); !sameGraph(got, want) || code != api.OK {
		t.Errorf("%v, %v; it should be %v", got, code, want)
	}
	for _, c := range []struct {
		g    api.Graph
		b    []int
		want api.Graph
	}{
		{api.Graph{}, nil, api.Graph{}},
		{api.Graph{Nodes: 2}, []int{4, 0}, api.Graph{}},
		{joined(1, [2]int{0, 0}), []int{2}, api.Graph{}},
		{joined(2, [2]int{1, 0}), []int{0, 0}, joined(2, [2]int{0, 1})},
		{joined(2, [2]int{1, 0}), []int{1, 1}, joined(4, [2]int{2, 3}, [2]int{1, 2}, [2]int{3, 0})},
		{joined(2, [2]int{0, 1}, [2]int{1, 0}), []int{2, 1}, joined(7, [2]int{3, 4}, [2]int{0, 3}, [2]int{1, 3}, [2]int{4, 2},
			[2]int{5, 6}, [2]int{2, 5}, [2]int{6, 0}, [2]int{6, 1})},
	} {
		if got, code := vouch.Gadget(c.g, c.b); !sameGraph(got, c.want) || code != api.OK {
			t.Errorf("%v, %v: %v, %v; it should be %v", c.g, c.b, got, code, c.want)
		}
	}
}

func TestP12_4GadgetScattered(t *testing.T) {
	row := trial.NewScatter(88)
	for range 500 {
		nodes := row.Between(1, 12)
		g := row.Graph(nodes, row.Below(20))
		b := make([]int, nodes)
		for v := range b {
			b[v] = row.Below(6)
		}
		b[row.Below(nodes)] = api.MaxEdges
		want := gadgetWords(g, b)
		if got, code := vouch.Gadget(g, b); !sameGraph(got, want) || code != api.OK {
			t.Fatalf("%v, %v: %v, %v; it should be %v", g, b, got, code, want)
		}
	}
}

// wrongNumbers: lists that ErrSupply is for, of a graph of two nodes.
func wrongNumbers() [][]int {
	return [][]int{nil, {}, {1}, {1, 1, 1}, {-1, 1}, {1, -1}, {1, api.MaxEdges + 1}, {api.MaxEdges + 1, 1}, {math.MinInt, 0}, {0, math.MaxInt}}
}

func TestP12_4GadgetRefusesNumbers(t *testing.T) {
	great := joined(2)
	for range 600 {
		great.Edges = append(great.Edges, api.Edge{From: 0, To: 1})
	}
	for _, g := range []api.Graph{joined(2), joined(2, [2]int{0, 1}), great} { // ahead of ErrSize
		for _, b := range wrongNumbers() {
			if got, code := vouch.Gadget(g, b); !isNothing(got) || code != api.ErrSupply {
				t.Errorf("%d edges, %v: %v, %v", len(g.Edges), b, got, code)
			}
			for _, m := range [][]int{nil, {0}, {-1}} { // ahead of ErrProof
				if n, code := vouch.Many(g, b, m, []int{-1}); n != 0 || code != api.ErrSupply {
					t.Errorf("Many of %d edges, %v: %d, %v", len(g.Edges), b, n, code)
				}
			}
		}
	}
	if got, code := vouch.Gadget(joined(2, [2]int{0, 1}), []int{api.MaxEdges, 0}); got.Nodes != 3 || code != api.OK {
		t.Errorf("the greatest number: %v, %v", got, code)
	}
	if _, code := vouch.Gadget(api.Graph{}, []int{0}); code != api.ErrSupply {
		t.Errorf("a number for no node: %v", code)
	}
}

// between: so many edges between two nodes, and a few loops.
func between(edges int) api.Graph {
	g := joined(2, [2]int{0, 0}, [2]int{1, 1})
	for range edges {
		g.Edges = append(g.Edges, api.Edge{From: 1, To: 0})
	}
	return g
}

func TestP12_4GadgetSizes(t *testing.T) {
	for _, c := range []struct {
		edges        int
		b            []int
		nodes, joins int
		code         api.Errno
	}{
		{512, []int{0, 0}, 1024, 512, api.OK},
		{511, []int{1, 1}, 1024, 511 * 3, api.OK},
		{511, []int{3, 0}, 0, 0, api.ErrSize},
		{511, []int{1, 2}, 0, 0, api.ErrSize},
		{513, []int{0, 0}, 0, 0, api.ErrSize},
		{64, []int{63, 0}, 128 + 63, 4096, api.OK},
		{64, []int{20, 43}, 128 + 63, 4096, api.OK},
		{241, []int{9, 7}, 0, 0, api.ErrSize}, // 4097 edges
		{64, []int{64, 0}, 0, 0, api.ErrSize},
		{64, []int{api.MaxEdges, api.MaxEdges}, 0, 0, api.ErrSize},
		{4094, []int{api.MaxEdges, api.MaxEdges}, 0, 0, api.ErrSize},
	} {
		g := between(c.edges)
		got, code := vouch.Gadget(g, c.b)
		if got.Nodes != c.nodes || len(got.Edges) != c.joins || code != c.code {
			t.Errorf("%d edges, %v: %d nodes, %d edges, %v", c.edges, c.b, got.Nodes, len(got.Edges), code)
		}
		if code == api.OK && !sameGraph(got, gadgetWords(g, c.b)) {
			t.Errorf("%d edges, %v: it isn't the gadget", c.edges, c.b)
		}
		if n, manyCode := vouch.Many(g, c.b, []int{-1}, nil); n != 0 || code == api.OK && manyCode != api.ErrProof || code != api.OK && manyCode != code {
			t.Errorf("%d edges, %v: Many: %d, %v", c.edges, c.b, n, manyCode)
		}
	}
}

// TestP12_4GadgetMeaning: a largest matching in the gadget has as many edges as g has edges that are no loops, and as can be taken.
func TestP12_4GadgetMeaning(t *testing.T) {
	row := trial.NewScatter(89)
	for range 150 {
		nodes := row.Between(1, 3)
		g := row.Small(nodes, row.Below(4), 0, 0, 0)
		b := make([]int, nodes)
		for v := range b {
			b[v] = row.Below(3)
		}
		gadget, code := vouch.Gadget(g, b)
		if code != api.OK {
			t.Fatalf("%v, %v: %v", g, b, code)
		}
		if len(gadget.Edges) > 12 {
			continue
		}
		if got, want := mostEdges(gadget), edgesWithoutLoops(g)+mostTaken(g, b); got != want {
			t.Fatalf("%v, %v: a matching of %d edges; it should be %d", g, b, got, want)
		}
	}
}

func edgesWithoutLoops(g api.Graph) int {
	count := 0
	for _, e := range g.Edges {
		if !isLoop(e) {
			count++
		}
	}
	return count
}

// mostTaken: how many edges can be taken with at each node at most its number.
func mostTaken(g api.Graph, b []int) int {
	most := 0
	for m := range trial.Subsets(len(g.Edges)) {
		if takes(g, m, func(v int) int { return b[v] }) {
			most = max(most, len(m))
		}
	}
	return most
}

func TestP12_4ManyRefuses(t *testing.T) {
	// Three edges at node 0 and a loop, with two at node 0: gadget nodes 0, 1 for node 0; 2, 3, 4 for the others; then 5, 6; 7, 8; 9, 10.
	g := joined(4, [2]int{0, 1}, [2]int{2, 0}, [2]int{0, 0}, [2]int{0, 3})
	b := []int{2, 1, 1, 1}
	set := []int{0, 1, 6, 7, 10} // each edge's other end is left with one node
	for _, c := range []struct {
		name      string
		b, m, set []int
		n         int
		code      api.Errno
	}{
		{"as it must be", b, []int{0, 1}, set, 2, api.OK},
		{"others", b, []int{1, 3}, set, 2, api.OK},
		{"one less", b, []int{0}, set, 0, api.ErrProof},
		{"none", b, nil, set, 0, api.ErrProof},
		{"one more than may be", b, []int{0, 1, 3}, set, 0, api.ErrProof},
		{"more at another node", []int{3, 1, 0, 1}, []int{0, 1}, nil, 0, api.ErrProof},
		{"a loop", b, []int{0, 2}, set, 0, api.ErrProof},
		{"edges that don't rise", b, []int{1, 0}, set, 0, api.ErrProof},
		{"an edge twice", b, []int{1, 1}, set, 0, api.ErrProof},
		{"an edge below 0", b, []int{-1, 1}, set, 0, api.ErrProof},
		{"no such edge", b, []int{1, 4}, set, 0, api.ErrProof},
		{"no nodes: the gadget is one odd part", b, []int{0, 1}, nil, 2, api.OK},
		{"nodes that prove nothing", b, []int{0, 1}, []int{2, 3}, 0, api.ErrProof},
		{"nodes that don't rise", b, []int{0, 1}, []int{1, 0, 6, 7, 10}, 0, api.ErrProof},
		{"a node twice", b, []int{0, 1}, []int{0, 0, 1, 6, 7, 10}, 0, api.ErrProof},
		{"a node below 0", b, []int{0, 1}, []int{-1, 0, 1, 6, 7, 10}, 0, api.ErrProof},
		{"no such node", b, []int{0, 1}, []int{0, 1, 6, 7, 10, 11}, 0, api.ErrProof},
		{"nothing may be taken", []int{0, 0, 0, 0}, nil, nil, 0, api.OK},
		{"nothing may be taken, but is", []int{0, 0, 0, 0}, []int{0}, nil, 0, api.ErrProof},
	} {
		if n, code := vouch.Many(g, c.b, c.m, c.set); n != c.n || code != c.code {
			t.Errorf("%s: %d, %v; it should be %d, %v", c.name, n, code, c.n, c.code)
		}
	}
	if n, code := vouch.Many(api.Graph{}, nil, nil, nil); n != 0 || code != api.OK {
		t.Errorf("nothing: %d, %v", n, code)
	}
}

// TestP12_4ManyAllSmall: of all edges just as many as can be taken are proved so, with some set.
func TestP12_4ManyAllSmall(t *testing.T) {
	row := trial.NewScatter(90)
	for range 120 {
		nodes := row.Between(1, 3)
		g := row.Small(nodes, row.Below(4), 0, 0, 0)
		b := make([]int, nodes)
		for v := range b {
			b[v] = row.Below(3)
		}
		gadget, _ := vouch.Gadget(g, b)
		if gadget.Nodes > 10 {
			continue
		}
		most, loopless := mostTaken(g, b), edgesWithoutLoops(g)
		proved := make([]int, len(g.Edges)+1) // by how many are taken
		for set := range trial.Subsets(gadget.Nodes) {
			odd := oddWithout(gadget, set)
			for m := range trial.Subsets(len(g.Edges)) {
				want, wantCode := 0, api.ErrProof
				right := takes(g, m, func(v int) int { return b[v] })
				if right && 2*(len(m)+loopless) == gadget.Nodes+len(set)-odd {
					want, wantCode = most, api.OK
					proved[len(m)]++
				}
				if n, code := vouch.Many(g, b, m, set); n != want || code != wantCode {
					t.Fatalf("%v, %v: Many of %v, %v: %d, %v; it should be %d, %v", g, b, m, set, n, code, want, wantCode)
				}
			}
		}
		for count, times := range proved {
			if (times > 0) != (count == most) {
				t.Fatalf("%v, %v: %d edges are proved most: %d times", g, b, count, times)
			}
		}
	}
}
