package bimatch_test

import (
	"math"
	"slices"
	"testing"

	"compass/api"
	"compass/bimatch"
	"compass/trial"
	"compass/vouch"
)

var kinds = []int{bimatch.Simple, bimatch.Phases}

// outside: numbers of no left side of n nodes.
func outside(n int) []int { return []int{-1, n + 1, n + 2, math.MinInt, math.MaxInt} }

// notKinds: numbers of no kind.
func notKinds() []int { return []int{0, 3, -1, 1 << 32, 1<<32 + 1, math.MinInt, math.MaxInt} }

// edge: From and To.
type edge [2]int

func graphOf(nodes int, edges ...edge) api.Graph {
	g := api.Graph{Nodes: nodes}
	for _, e := range edges {
		g.Edges = append(g.Edges, api.Edge{From: e[0], To: e[1]})
	}
	return g
}

// example: the chapter's, with left 2.
func example() api.Graph { return graphOf(4, edge{0, 2}, edge{2, 1}, edge{1, 3}) }

// sidesWords: the document's words of Sides, done as they stand, of a right graph.
func sidesWords(g api.Graph, left int) api.Fault {
	if left < 0 || left > g.Nodes {
		return api.Fault{Code: api.ErrSides}
	}
	for i, e := range g.Edges {
		if e.From < left && e.To < left || e.From >= left && e.To >= left {
			return api.Fault{Code: api.ErrSides, At: i}
		}
	}
	return api.Fault{}
}

// rises: are they numbers below n, each above the one ahead of it?
func rises(list []int, n int) bool {
	for i, x := range list {
		if x < 0 || x >= n || i > 0 && x <= list[i-1] {
			return false
		}
	}
	return true
}

// matches: have no two of the edges an end in common?
func matches(g api.Graph, edges []int) bool {
	taken := make([]bool, g.Nodes)
	for _, i := range edges {
		e := g.Edges[i]
		if taken[e.From] || taken[e.To] {
			return false
		}
		taken[e.From], taken[e.To] = true, true
	}
	return true
}

// covers: does each edge have an end among the nodes?
func covers(g api.Graph, nodes []int) bool {
	for _, e := range g.Edges {
		if !slices.Contains(nodes, e.From) && !slices.Contains(nodes, e.To) {
			return false
		}
	}
	return true
}

// most: how many edges can be matched, found by trying all.
func most(g api.Graph) int {
	count := 0
	for edges := range trial.Subsets(len(g.Edges)) {
		if len(edges) > count && matches(g, edges) {
			count = len(edges)
		}
	}
	return count
}

// wantMatch: a matching, and as many nodes that cover all edges.
func wantMatch(t *testing.T, g api.Graph, match, cover []int) {
	t.Helper()
	if !rises(match, len(g.Edges)) || !matches(g, match) {
		t.Fatalf("%v: %v is no matching", g, match)
	}
	if !rises(cover, g.Nodes) || len(cover) != len(match) || !covers(g, cover) {
		t.Fatalf("%v: %v isn't proved by %v", g, match, cover)
	}
	if proved, code := vouch.Covered(g, match, cover); proved != len(match) || code != api.OK {
		t.Fatalf("%v: %v, %v isn't proved: %d, %v", g, match, cover, proved, code)
	}
}

// holdKinds: both kinds answer what is right, and as many edges, which is answered here.
func holdKinds(t *testing.T, g api.Graph, left int) int {
	t.Helper()
	count := 0
	for _, kind := range kinds {
		match, cover, code := bimatch.Solve(g, left, kind)
		if code != api.OK {
			t.Fatalf("%v: left %d, kind %d: %v", g, left, kind, code)
		}
		wantMatch(t, g, match, cover)
		if kind != kinds[0] && len(match) != count {
			t.Fatalf("%v: left %d, kind %d: %d edges; another kind answers %d", g, left, kind, len(match), count)
		}
		count = len(match)
	}
	return count
}

// holdWords: likewise, as many as trying all tells.
func holdWords(t *testing.T, g api.Graph, left int) {
	t.Helper()
	if count, want := holdKinds(t, g, left), most(g); count != want {
		t.Fatalf("%v: left %d: %d edges; it should be %d", g, left, count, want)
	}
}

func TestP15TheChaptersExamples(t *testing.T) {
	for _, kind := range kinds {
		match, cover, code := bimatch.Solve(example(), 2, kind)
		if !slices.Equal(match, []int{0, 2}) || len(cover) != 2 || code != api.OK {
			t.Errorf("kind %d: %v, %v, %v", kind, match, cover, code)
		}
	}
	holdWords(t, example(), 2)
	if bimatch.Simple != 1 || bimatch.Phases != 2 {
		t.Error("the kinds' numbers aren't the document's")
	}
}

func TestP15_1Sides(t *testing.T) {
	wrong := func(at int) api.Fault { return api.Fault{Code: api.ErrSides, At: at} }
	for _, c := range []struct {
		name string
		g    api.Graph
		left int
		want api.Fault
	}{
		{"nothing", graphOf(0), 0, api.Fault{}},
		{"nodes alone, none on the left", graphOf(3), 0, api.Fault{}},
		{"nodes alone, all on the left", graphOf(3), 3, api.Fault{}},
		{"From on the left", graphOf(2, edge{0, 1}), 1, api.Fault{}},
		{"From on the right", graphOf(2, edge{1, 0}), 1, api.Fault{}},
		{"both", example(), 2, api.Fault{}},
		{"the greatest graph", api.Graph{Nodes: api.MaxNodes, Edges: slices.Repeat([]api.Edge{{From: 1023}}, api.MaxEdges)}, 1023, api.Fault{}},
		{"both ends on the left", graphOf(3, edge{0, 2}, edge{0, 1}), 2, wrong(1)},
		{"both ends on the right", graphOf(3, edge{0, 2}, edge{1, 2}), 1, wrong(1)},
		{"none on the left", graphOf(3, edge{0, 2}), 0, wrong(0)},
		{"all on the left", graphOf(3, edge{0, 2}), 3, wrong(0)},
		{"a loop on the left", graphOf(2, edge{0, 1}, edge{1, 0}, edge{0, 0}), 1, wrong(2)},
		{"a loop on the right", graphOf(2, edge{0, 1}, edge{1, 0}, edge{1, 1}), 1, wrong(2)},
		{"the first of several", graphOf(4, edge{0, 2}, edge{2, 3}, edge{0, 1}, edge{2, 2}), 2, wrong(1)},
	} {
		if got := bimatch.Sides(c.g, c.left); got != c.want {
			t.Errorf("%s: %v; it should be %v", c.name, got, c.want)
		}
	}
	for _, left := range outside(4) { // ahead of any edge
		for _, g := range []api.Graph{example(), graphOf(4), graphOf(4, edge{0, 0})} {
			if got := bimatch.Sides(g, left); got != wrong(0) {
				t.Errorf("left %d: %v", left, got)
			}
		}
	}
}

// TestP15_1WrongGraphsAreRefused: ahead of any other error, with their place.
func TestP15_1WrongGraphsAreRefused(t *testing.T) {
	for _, c := range trial.WrongGraphs() {
		for _, left := range append(outside(2), 0, 1, 2) {
			if got := bimatch.Sides(c.Graph, left); got != c.Fault {
				t.Errorf("%v, left %d: %v; it should be %v", c.Graph, left, got, c.Fault)
			}
		}
	}
}

// TestP15AllSmallGraphs: each graph of so many nodes and edges, with each left side.
func TestP15AllSmallGraphs(t *testing.T) {
	for _, c := range [][2]int{{1, 2}, {2, 3}, {3, 4}, {4, 3}, {4, 4}, {5, 3}} {
		for g := range trial.AllGraphs(c[0], c[1]) {
			for left := -1; left <= g.Nodes+1; left++ {
				fault := sidesWords(g, left)
				if got := bimatch.Sides(g, left); got != fault {
					t.Fatalf("%v, left %d: %v; it should be %v", g, left, got, fault)
				}
				if fault.Code == api.OK {
					holdWords(t, g, left)
				}
			}
		}
	}
}

func TestP15_2Solve(t *testing.T) {
	for _, c := range []struct {
		name string
		g    api.Graph
		left int
		want int
	}{
		{"nothing", graphOf(0), 0, 0},
		{"nodes alone", graphOf(3), 2, 0},
		{"none on the left", graphOf(3), 0, 0},
		{"none on the right", graphOf(3), 3, 0},
		{"several edges between two", graphOf(2, edge{0, 1}, edge{1, 0}, edge{0, 1}), 1, 1},
		{"a star round the left", graphOf(4, edge{0, 1}, edge{0, 2}, edge{3, 0}), 1, 1},
		{"a star round the right", graphOf(4, edge{0, 3}, edge{1, 3}, edge{3, 2}), 3, 1},
		{"all are matched", graphOf(4, edge{0, 2}, edge{0, 3}, edge{1, 2}, edge{1, 3}), 2, 2},
		{"one must be matched anew", graphOf(4, edge{0, 2}, edge{0, 3}, edge{1, 2}), 2, 2},
		{"and behind it another one", graphOf(6, edge{0, 3}, edge{0, 4}, edge{1, 3}, edge{1, 5}, edge{2, 3}), 3, 3},
		{"two want one", graphOf(5, edge{0, 3}, edge{1, 3}, edge{2, 3}, edge{2, 4}), 3, 2},
		{"the cover has nodes of both sides", graphOf(6, edge{0, 3}, edge{0, 4}, edge{0, 5}, edge{1, 3}, edge{2, 3}), 3, 2},
		{"parts that have nothing to do with one another", graphOf(8, edge{0, 4}, edge{1, 4}, edge{2, 6}, edge{2, 7}, edge{3, 7}), 4, 3},
	} {
		if got := holdKinds(t, c.g, c.left); got != c.want {
			t.Errorf("%s: %d edges; it should be %d", c.name, got, c.want)
		}
		holdWords(t, c.g, c.left)
	}
}

func TestP15_2ScatteredGraphs(t *testing.T) {
	row := trial.NewScatter(151)
	for range 1500 {
		nodes := row.Between(2, 9)
		left := row.Between(1, nodes-1)
		holdWords(t, row.Sided(nodes, left, row.Below(12), 0, 0), left)
	}
	for range 1500 {
		nodes := row.Between(2, 60)
		left := row.Between(1, nodes-1)
		holdKinds(t, row.Sided(nodes, left, row.Below(3*nodes), 0, 0), left)
	}
}

// TestP15_2LabelsDontMatter: nor do they change the matching.
func TestP15_2LabelsDontMatter(t *testing.T) {
	row := trial.NewScatter(152)
	for range 200 {
		g := row.Sided(12, 6, 20, 0, 0)
		dear := api.Graph{Nodes: 12, Edges: slices.Clone(g.Edges)}
		for i := range dear.Edges {
			other := row.Edge(12)
			dear.Edges[i].Cap, dear.Edges[i].Cost = other.Cap, other.Cost
		}
		for _, kind := range kinds {
			match, cover, _ := bimatch.Solve(g, 6, kind)
			other, nodes, _ := bimatch.Solve(dear, 6, kind)
			if !slices.Equal(match, other) || !slices.Equal(cover, nodes) {
				t.Fatalf("%v: kind %d: %v, %v; with labels %v, %v", g, kind, match, cover, other, nodes)
			}
		}
	}
}

// wantNone: an error, and nothing beside it.
func wantNone(t *testing.T, name string, match, cover []int, code, want api.Errno) {
	t.Helper()
	if len(match) != 0 || len(cover) != 0 || code != want {
		t.Errorf("%s: %v, %v, %v; it should be %v", name, match, cover, code, want)
	}
}

// TestP15_2Refuses: in the order of the errors.
func TestP15_2Refuses(t *testing.T) {
	for _, kind := range append(notKinds(), kinds...) {
		for _, c := range trial.WrongGraphs() {
			for _, left := range append(outside(2), 0, 1, 2) {
				match, cover, code := bimatch.Solve(c.Graph, left, kind)
				wantNone(t, "a wrong graph", match, cover, code, c.Fault.Code)
			}
		}
		for _, left := range append(outside(4), 0, 1, 3, 4) {
			match, cover, code := bimatch.Solve(example(), left, kind)
			wantNone(t, "wrong sides", match, cover, code, api.ErrSides)
		}
	}
	for _, kind := range notKinds() {
		match, cover, code := bimatch.Solve(example(), 2, kind)
		wantNone(t, "a wrong kind", match, cover, code, api.ErrKind)
		match, cover, code = bimatch.Solve(api.Graph{}, 0, kind)
		wantNone(t, "a wrong kind of nothing", match, cover, code, api.ErrKind)
	}
}

// comb: node i of the left side wants the right side's node i, and then the one behind it, so the last one moves all others: it is the only one without a choice.
func comb(half int) api.Graph {
	g := api.Graph{Nodes: 2 * half}
	for i := range half - 1 {
		g.Edges = append(g.Edges, api.Edge{From: i, To: half + i}, api.Edge{From: half + i + 1, To: i})
	}
	g.Edges = append(g.Edges, api.Edge{From: half - 1, To: half})
	return g
}

// block: the nodes ahead of some are joined to all of some others, round and round as often as edges are left.
func block(left, wide int) api.Graph {
	g := api.Graph{Nodes: left + wide}
	for i := range api.MaxEdges {
		g.Edges = append(g.Edges, api.Edge{From: i / wide % left, To: left + i%wide})
	}
	return g
}

// TestP15_2FullGraphs: as many nodes and edges as there may be.
func TestP15_2FullGraphs(t *testing.T) {
	const half = api.MaxNodes / 2
	row := trial.NewScatter(153)
	for left := 1; left < api.MaxNodes; left += 73 {
		holdKinds(t, row.Sided(api.MaxNodes, left, api.MaxEdges, 0, 0), left)
		holdKinds(t, row.Sided(api.MaxNodes, left, api.MaxNodes, 0, 0), left)
	}
	for _, c := range []struct {
		name string
		g    api.Graph
		left int
		want int
	}{
		{"a comb", comb(half), half, half},
		{"a block", block(64, 64), 64, 64},
		{"few on the left", block(8, 512), 8, 8},
		{"few on the right", block(512, 8), 512, 8},
		{"more than can be matched", block(1023, 1), 1023, 1},
	} {
		if got := holdKinds(t, c.g, c.left); got != c.want {
			t.Errorf("%s: %d edges; it should be %d", c.name, got, c.want)
		}
	}
}

// TestP2: the graph isn't changed, the same call answers the same, and no answer shares memory with anything.
func TestP2(t *testing.T) {
	row := trial.NewScatter(154)
	for range 300 {
		edges, same := trial.Watched(row.Sided(10, 4, row.Below(16), -5, 5).Edges, api.Edge{From: -7})
		g := api.Graph{Nodes: 10, Edges: edges}
		bimatch.Sides(g, 4)
		for _, kind := range kinds {
			match, cover, _ := bimatch.Solve(g, 4, kind)
			again, nodes, _ := bimatch.Solve(g, 4, kind)
			kept, keptNodes := slices.Clone(match), slices.Clone(cover)
			trial.Spoil(match, -7)
			if !slices.Equal(cover, keptNodes) {
				t.Fatal("the two lists of an answer share memory")
			}
			trial.Spoil(cover, -7)
			third, thirdNodes, _ := bimatch.Solve(g, 4, kind)
			if !slices.Equal(again, kept) || !slices.Equal(third, kept) || !slices.Equal(nodes, keptNodes) || !slices.Equal(thirdNodes, keptNodes) {
				t.Fatal("an answer shares memory, or the same call answers otherwise")
			}
			if !same() {
				t.Fatal("the graph is changed")
			}
		}
	}
}
