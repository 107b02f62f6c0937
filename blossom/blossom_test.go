package blossom_test

import (
	"math/bits"
	"slices"
	"testing"

	"compass/api"
	"compass/blossom"
	"compass/trial"
	"compass/vouch"
)

// edge: From and To.
type edge [2]int

func graphOf(nodes int, edges ...edge) api.Graph {
	g := api.Graph{Nodes: nodes}
	for _, e := range edges {
		g.Edges = append(g.Edges, api.Edge{From: e[0], To: e[1]})
	}
	return g
}

// ring: each of some nodes is joined with the next one, and the last one with the first.
func ring(nodes ...int) []edge {
	var list []edge
	for i, v := range nodes {
		list = append(list, edge{v, nodes[(i+1)%len(nodes)]})
	}
	return list
}

// rises: are they numbers below n, each above the one ahead of it?
func rises(list []int, n int) bool {
	for i, x := range list {
		if x < 0 || x >= n || i > 0 && x <= list[i-1] {
			return false
		}
	}
	return true
}

// matches: is no edge a loop, and have no two an end in common?
func matches(g api.Graph, edges []int) bool {
	taken := make([]bool, g.Nodes)
	for _, i := range edges {
		e := g.Edges[i]
		if e.From == e.To || taken[e.From] || taken[e.To] {
			return false
		}
		taken[e.From], taken[e.To] = true, true
	}
	return true
}

// near: the nodes that may not be left out and that an edge joins with one that may.
func near(g api.Graph, out []bool) []int {
	var list []int
	for v := range g.Nodes {
		if !out[v] && slices.ContainsFunc(g.Edges, func(e api.Edge) bool {
			return e.From == v && out[e.To] || e.To == v && out[e.From]
		}) {
			list = append(list, v)
		}
	}
	return list
}

// words: how many edges can be matched, and which nodes may be left out then, found by trying all nodes' sets one after the other.
func words(g api.Graph) (most int, out []bool) {
	beside := make([]int, g.Nodes)
	for _, e := range g.Edges {
		if e.From != e.To {
			beside[e.From] |= 1 << e.To
			beside[e.To] |= 1 << e.From
		}
	}
	best := make([]int, 1<<g.Nodes) // of each set of nodes how many edges can be matched among them
	for set := 1; set < len(best); set++ {
		v := bits.TrailingZeros(uint(set))
		rest := set &^ (1 << v)
		best[set] = best[rest]
		for with := beside[v] & rest; with != 0; with &= with - 1 {
			best[set] = max(best[set], 1+best[rest&^(with&-with)])
		}
	}
	all := len(best) - 1
	for v := range g.Nodes {
		out = append(out, best[all&^(1<<v)] == best[all])
	}
	return best[all], out
}

// holdProof: the answer is right and proved; how many edges it has, and the set, are answered here.
func holdProof(t *testing.T, g api.Graph) (int, []int) {
	t.Helper()
	match, set, code := blossom.Solve(g)
	if code != api.OK || !rises(match, len(g.Edges)) || !matches(g, match) || !rises(set, g.Nodes) {
		t.Fatalf("%v: %v, %v, %v", g, match, set, code)
	}
	if proved, code := vouch.Largest(g, match, set); proved != len(match) || code != api.OK {
		t.Fatalf("%v: %v isn't proved by %v: %d, %v", g, match, set, proved, code)
	}
	return len(match), set
}

// holdWords: likewise, and both are as the document's words ask.
func holdWords(t *testing.T, g api.Graph) {
	t.Helper()
	count, set := holdProof(t, g)
	most, out := words(g)
	if want := near(g, out); count != most || !slices.Equal(set, want) {
		t.Fatalf("%v: %d edges, the set %v; it should be %d and %v", g, count, set, most, want)
	}
}

func TestP17TheChaptersExamples(t *testing.T) {
	circle := graphOf(6, append(ring(0, 1, 2, 3, 4), edge{0, 5})...)
	if match, _, code := blossom.Solve(circle); len(match) != 3 || code != api.OK {
		t.Errorf("a circle and one node more: %v, %v", match, code)
	}
	star := graphOf(4, edge{0, 1}, edge{0, 2}, edge{3, 0})
	if match, set, code := blossom.Solve(star); len(match) != 1 || !slices.Equal(set, []int{0}) || code != api.OK {
		t.Errorf("a star: %v, %v, %v", match, set, code)
	}
	holdWords(t, circle)
	holdWords(t, star)
}

func TestP17_1Solve(t *testing.T) {
	for _, c := range []struct {
		name string
		g    api.Graph
		want int
		set  []int
	}{
		{"nothing", graphOf(0), 0, nil},
		{"a node alone", graphOf(1), 0, nil},
		{"nodes alone", graphOf(3), 0, nil},
		{"loops alone", graphOf(2, edge{0, 0}, edge{1, 1}, edge{0, 0}), 0, nil},
		{"a loop beside an edge", graphOf(3, edge{1, 1}, edge{2, 1}), 1, nil},
		{"a loop at a node that may be left out", graphOf(3, edge{0, 0}, edge{0, 1}, edge{1, 2}), 1, []int{1}},
		{"several edges between two", graphOf(2, edge{0, 1}, edge{1, 0}, edge{0, 1}), 1, nil},
		{"a way of three nodes", graphOf(3, edge{0, 1}, edge{2, 1}), 1, []int{1}},
		{"a way of four nodes", graphOf(4, edge{1, 2}, edge{0, 1}, edge{3, 2}), 2, nil},
		{"a way of five nodes", graphOf(5, edge{1, 2}, edge{0, 1}, edge{3, 2}, edge{3, 4}), 2, []int{1, 3}},
		{"a triangle", graphOf(3, ring(0, 1, 2)...), 1, nil},
		{"a square", graphOf(4, ring(0, 1, 2, 3)...), 2, nil},
		{"a triangle with a tail", graphOf(4, append(ring(0, 1, 2), edge{0, 3})...), 2, nil},
		{"a triangle with a tail of two", graphOf(5, append(ring(0, 1, 2), edge{0, 3}, edge{3, 4})...), 2, []int{3}},
		{"two triangles and a node between", graphOf(7, append(append(ring(0, 1, 2), ring(4, 5, 6)...), edge{2, 3}, edge{3, 4})...), 3, []int{3}},
		{"two triangles side by side", graphOf(6, append(append(ring(0, 1, 2), ring(3, 4, 5)...), edge{2, 3})...), 3, nil},
		{"three triangles round a node", graphOf(10, slices.Concat(ring(1, 2, 3), ring(4, 5, 6), ring(7, 8, 9), []edge{{0, 1}, {4, 0}, {0, 7}})...), 4, []int{0}},
		{"a circle within a circle", graphOf(5, append(ring(0, 1, 2), edge{1, 3}, edge{3, 4}, edge{4, 2})...), 2, nil},
		{"a circle within a circle, with a tail", graphOf(6, append(ring(0, 1, 2), edge{1, 3}, edge{3, 4}, edge{4, 2}, edge{3, 5})...), 3, nil},
		{"a circle is gone through the long way round", graphOf(8, slices.Concat(ring(1, 2, 3, 4, 5), []edge{{0, 1}, {3, 6}, {6, 7}})...), 4, nil},
		{"some nodes aren't near the set", graphOf(7, edge{0, 1}, edge{1, 2}, edge{1, 3}, edge{3, 4}, edge{5, 6}), 3, []int{1}},
		{"parts that have nothing to do with one another", graphOf(10, edge{0, 1}, edge{1, 2}, edge{3, 4}, edge{5, 6}, edge{6, 7}, edge{6, 8}), 3, []int{1, 6}},
		{"all with all, an even number", graphOf(4, edge{0, 1}, edge{0, 2}, edge{0, 3}, edge{1, 2}, edge{1, 3}, edge{2, 3}), 2, nil},
	} {
		if got, set := holdProof(t, c.g); got != c.want || !slices.Equal(set, c.set) {
			t.Errorf("%s: %d edges, the set %v; it should be %d and %v", c.name, got, set, c.want, c.set)
		}
		holdWords(t, c.g)
	}
}

// TestP17AllSmallGraphs: each graph of so many nodes and edges, loops and edges side by side among them; and each one of more nodes without such.
func TestP17AllSmallGraphs(t *testing.T) {
	for _, c := range [][2]int{{1, 2}, {2, 3}, {3, 4}, {4, 3}, {5, 3}} {
		for g := range trial.AllGraphs(c[0], c[1]) {
			holdWords(t, g)
		}
	}
	for nodes := range 7 {
		for g := range trial.SimpleGraphs(nodes) {
			holdWords(t, g)
		}
	}
}

func TestP17_1ScatteredGraphs(t *testing.T) {
	row := trial.NewScatter(171)
	for range 6000 {
		nodes := row.Between(7, 11)
		holdWords(t, row.Small(nodes, row.Between(nodes/2, 3*nodes/2), 0, 0, 0))
	}
	for range 1500 {
		nodes := row.Between(2, 90)
		holdProof(t, row.Small(nodes, row.Below(2*nodes), 0, 0, 0))
	}
}

// without: the graph without the edges at a node.
func without(g api.Graph, v int) api.Graph {
	left := api.Graph{Nodes: g.Nodes}
	for _, e := range g.Edges {
		if e.From != v && e.To != v {
			left.Edges = append(left.Edges, e)
		}
	}
	return left
}

// TestP17_1TheSetIsWhatItIsSaidToBe: in greater graphs too, where the proofs of what is left without a node tell whether it may be left out.
func TestP17_1TheSetIsWhatItIsSaidToBe(t *testing.T) {
	row := trial.NewScatter(172)
	for range 60 {
		nodes := row.Between(20, 60)
		g := row.Small(nodes, row.Between(nodes/2, 3*nodes/2), 0, 0, 0)
		count, set := holdProof(t, g)
		out := make([]bool, nodes)
		for v := range nodes {
			left, _ := holdProof(t, without(g, v))
			out[v] = left == count
		}
		if want := near(g, out); !slices.Equal(set, want) {
			t.Fatalf("%v: the set %v; it should be %v", g, set, want)
		}
	}
}

// TestP17_1LabelsDontMatter: nor do they change the matching. Loops, and which way an edge goes, change neither its size nor the set.
func TestP17_1LabelsDontMatter(t *testing.T) {
	row := trial.NewScatter(173)
	for range 300 {
		g := row.Small(12, 16, 0, 0, 0)
		match, set, _ := blossom.Solve(g)
		dear := api.Graph{Nodes: 12, Edges: slices.Clone(g.Edges)}
		turned := api.Graph{Nodes: 12}
		for i, e := range g.Edges {
			other := row.Edge(12)
			dear.Edges[i].Cap, dear.Edges[i].Cost = other.Cap, other.Cost
			turned.Edges = append(turned.Edges, api.Edge{From: i % 12, To: i % 12}, api.Edge{From: e.To, To: e.From})
		}
		if other, nodes, _ := blossom.Solve(dear); !slices.Equal(match, other) || !slices.Equal(set, nodes) {
			t.Fatalf("%v: %v, %v; with labels %v, %v", g, match, set, other, nodes)
		}
		if count, nodes := holdProof(t, turned); count != len(match) || !slices.Equal(set, nodes) {
			t.Fatalf("%v: %v, %v; turned about, with loops: %d, %v", g, match, set, count, nodes)
		}
	}
}

func TestP17_1Refuses(t *testing.T) {
	for _, c := range trial.WrongGraphs() {
		if match, set, code := blossom.Solve(c.Graph); len(match) != 0 || len(set) != 0 || code != c.Fault.Code {
			t.Errorf("%v: %v, %v, %v; it should be %v", c.Graph, match, set, code, c.Fault.Code)
		}
	}
}

// line: each node is joined with the next one, and with the one so many behind it, where there is one.
func line(nodes, far int) api.Graph {
	g := api.Graph{Nodes: nodes}
	for v := range nodes - 1 {
		g.Edges = append(g.Edges, api.Edge{From: v, To: v + 1})
		if v+far < nodes {
			g.Edges = append(g.Edges, api.Edge{From: v + far, To: v})
		}
	}
	return g
}

// fans: each node below hubs is joined with so many nodes of its own, and with the next one's first.
func fans(hubs, each int) api.Graph {
	g := api.Graph{Nodes: hubs * (each + 1)}
	for v := range hubs {
		for i := range each {
			g.Edges = append(g.Edges, api.Edge{From: v, To: hubs + v*each + i})
		}
		g.Edges = append(g.Edges, api.Edge{From: hubs + (v+1)%hubs*each, To: v})
	}
	return g
}

// flowers: so many circles of five nodes, each by one node joined to the first node of all.
func flowers(count int) api.Graph {
	g := api.Graph{Nodes: 1 + 5*count}
	for i := range count {
		first := 1 + 5*i
		for j := range 5 {
			g.Edges = append(g.Edges, api.Edge{From: first + j, To: first + (j+1)%5})
		}
		g.Edges = append(g.Edges, api.Edge{From: first + i%5, To: 0})
	}
	return g
}

// nest: a triangle, and round it one circle after the other, each with all that is in it as one of its nodes.
func nest(circles int) api.Graph {
	g := graphOf(2*circles+1, ring(0, 1, 2)...)
	for i := 1; i < circles; i++ {
		a, b := 2*i+1, 2*i+2
		g.Edges = append(g.Edges, api.Edge{From: 2*i - 1, To: a}, api.Edge{From: a, To: b}, api.Edge{From: b, To: 2 * i})
	}
	return g
}

// TestP17_1FullGraphs: as many nodes and edges as there may be.
func TestP17_1FullGraphs(t *testing.T) {
	row := trial.NewScatter(174)
	for _, edges := range []int{400, 700, 1024, 1500, 2100, 3000, api.MaxEdges} {
		holdProof(t, row.Small(api.MaxNodes, edges, 0, 0, 0))
	}
	for _, nodes := range []int{3, 64, 91, 300} {
		holdProof(t, row.Small(nodes, api.MaxEdges, 0, 0, 0))
	}
	for _, c := range []struct {
		name      string
		g         api.Graph
		want, set int
	}{
		{"a line", line(1024, 2000), 512, 0},
		{"an odd line", line(1023, 2000), 511, 511},
		{"a line of triangles", line(1024, 2), 512, 0},
		{"an odd line of triangles", line(1023, 2), 511, 0},
		{"a line of squares", line(1023, 3), 511, 511},
		{"a line of circles of five", line(1023, 4), 511, 0},
		{"fans", fans(204, 4), 204, 204},
		{"flowers", flowers(204), 2*204 + 1, 1},
		{"a nest", nest(511), 511, 0},
		{"one edge side by side with itself", api.Graph{Nodes: 1024, Edges: slices.Repeat([]api.Edge{{From: 1023}}, api.MaxEdges)}, 1, 0},
		{"no edge", api.Graph{Nodes: 1024}, 0, 0},
	} {
		if got, set := holdProof(t, c.g); got != c.want || len(set) != c.set {
			t.Errorf("%s: %d edges, %d nodes in the set; it should be %d and %d", c.name, got, len(set), c.want, c.set)
		}
	}
}

// TestP2: the graph isn't changed, the same call answers the same, and no answer shares memory with anything.
func TestP2(t *testing.T) {
	row := trial.NewScatter(175)
	for range 300 {
		edges, same := trial.Watched(row.Small(10, row.Below(16), 3, -5, 5).Edges, api.Edge{From: -7})
		g := api.Graph{Nodes: 10, Edges: edges}
		match, set, _ := blossom.Solve(g)
		again, nodes, _ := blossom.Solve(g)
		kept, keptNodes := slices.Clone(match), slices.Clone(set)
		trial.Spoil(match, -7)
		if !slices.Equal(set, keptNodes) {
			t.Fatal("the two lists of an answer share memory")
		}
		trial.Spoil(set, -7)
		third, thirdNodes, _ := blossom.Solve(g)
		if !slices.Equal(again, kept) || !slices.Equal(third, kept) || !slices.Equal(nodes, keptNodes) || !slices.Equal(thirdNodes, keptNodes) {
			t.Fatal("an answer shares memory, or the same call answers otherwise")
		}
		if !same() {
			t.Fatal("the graph is changed")
		}
	}
}
