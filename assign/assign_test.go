package assign_test

import (
	"math"
	"slices"
	"testing"

	"compass/api"
	"compass/assign"
	"compass/trial"
	"compass/vouch"
)

var kinds = []int{assign.Rows, assign.Trees}

// outside: numbers of no left side of n nodes.
func outside(n int) []int { return []int{-1, n + 1, n + 2, math.MinInt, math.MaxInt} }

// notKinds: numbers of no kind.
func notKinds() []int { return []int{0, 3, -1, 1 << 32, 1<<32 + 1, math.MinInt, math.MaxInt} }

// edge: From, To and Cost.
type edge [3]int

func graphOf(nodes int, edges ...edge) api.Graph {
	g := api.Graph{Nodes: nodes}
	for _, e := range edges {
		g.Edges = append(g.Edges, api.Edge{From: e[0], To: e[1], Cost: int64(e[2])})
	}
	return g
}

// example: the chapter's, with left 2.
func example() api.Graph { return graphOf(4, edge{0, 2, 3}, edge{2, 1, 7}, edge{1, 3, 3}) }

// rises: are they numbers below n, each above the one ahead of it?
func rises(list []int, n int) bool {
	for i, x := range list {
		if x < 0 || x >= n || i > 0 && x <= list[i-1] {
			return false
		}
	}
	return true
}

// matches: have no two of the edges an end in common?
func matches(g api.Graph, edges []int) bool {
	taken := make([]bool, g.Nodes)
	for _, i := range edges {
		e := g.Edges[i]
		if taken[e.From] || taken[e.To] {
			return false
		}
		taken[e.From], taken[e.To] = true, true
	}
	return true
}

func costOf(g api.Graph, edges []int) int64 {
	var sum int64
	for _, i := range edges {
		sum += g.Edges[i].Cost
	}
	return sum
}

// heaviest: the greatest cost of a matching, found by trying all.
func heaviest(g api.Graph) int64 {
	var most int64
	for edges := range trial.Subsets(len(g.Edges)) {
		if cost := costOf(g, edges); cost > most && matches(g, edges) {
			most = cost
		}
	}
	return most
}

// wantMatch: a matching that makes the cost, and potentials that prove it by the document's words.
func wantMatch(t *testing.T, g api.Graph, match []int, pot []int64, cost int64) {
	t.Helper()
	if !rises(match, len(g.Edges)) || !matches(g, match) || costOf(g, match) != cost {
		t.Fatalf("%v: %v is no matching of cost %d", g, match, cost)
	}
	var sum int64
	for _, p := range pot {
		if p < 0 {
			t.Fatalf("%v: a potential below 0: %v", g, pot)
		}
		sum += p
	}
	if len(pot) != g.Nodes || sum != cost {
		t.Fatalf("%v: cost %d, but potentials %v", g, cost, pot)
	}
	for i, e := range g.Edges {
		if pot[e.From]+pot[e.To] < e.Cost {
			t.Fatalf("%v: the potentials %v don't reach edge %d", g, pot, i)
		}
	}
	if proved, code := vouch.Heaviest(g, match, pot); proved != cost || code != api.OK {
		t.Fatalf("%v: %v, %v isn't proved: %d, %v", g, match, pot, proved, code)
	}
}

// holdKinds: both kinds answer what is right, and the same cost, which is answered here.
func holdKinds(t *testing.T, g api.Graph, left int) int64 {
	t.Helper()
	var all int64
	for _, kind := range kinds {
		match, pot, cost, code := assign.Solve(g, left, kind)
		if code != api.OK {
			t.Fatalf("%v: left %d, kind %d: %v", g, left, kind, code)
		}
		wantMatch(t, g, match, pot, cost)
		if kind != kinds[0] && cost != all {
			t.Fatalf("%v: left %d, kind %d: cost %d; another kind answers %d", g, left, kind, cost, all)
		}
		all = cost
	}
	return all
}

// holdWords: likewise, the cost that trying all tells.
func holdWords(t *testing.T, g api.Graph, left int) {
	t.Helper()
	if cost, want := holdKinds(t, g, left), heaviest(g); cost != want {
		t.Fatalf("%v: left %d: cost %d; it should be %d", g, left, cost, want)
	}
}

func TestP16TheChaptersExamples(t *testing.T) {
	for _, kind := range kinds {
		match, _, cost, code := assign.Solve(example(), 2, kind)
		if !slices.Equal(match, []int{1}) || cost != 7 || code != api.OK {
			t.Errorf("kind %d: %v, %d, %v", kind, match, cost, code)
		}
		poor := graphOf(4, edge{0, 2, 0}, edge{1, 2, -5}, edge{3, 1, -api.MaxLabel})
		if _, _, cost, code := assign.Solve(poor, 2, kind); cost != 0 || code != api.OK {
			t.Errorf("kind %d: edges that cost 0 or less: %d, %v", kind, cost, code)
		}
		holdWords(t, poor, 2)
	}
	holdWords(t, example(), 2)
	if assign.Rows != 1 || assign.Trees != 2 {
		t.Error("the kinds' numbers aren't the document's")
	}
}

func TestP16_1Solve(t *testing.T) {
	const most = api.MaxLabel
	for _, c := range []struct {
		name string
		g    api.Graph
		left int
		want int64
	}{
		{"nothing", graphOf(0), 0, 0},
		{"nodes alone", graphOf(3), 2, 0},
		{"none on the left", graphOf(3), 0, 0},
		{"none on the right", graphOf(3), 3, 0},
		{"one edge", graphOf(2, edge{1, 0, 5}), 1, 5},
		{"the greatest cost", graphOf(2, edge{0, 1, most}), 1, most},
		{"the least cost", graphOf(2, edge{0, 1, -most}), 1, 0},
		{"of several edges between two the one that costs most", graphOf(2, edge{0, 1, 3}, edge{1, 0, 8}, edge{0, 1, -9}, edge{0, 1, 5}), 1, 8},
		{"a star round the left", graphOf(4, edge{0, 1, 2}, edge{0, 2, 4}, edge{3, 0, 3}), 1, 4},
		{"a star round the right", graphOf(4, edge{0, 3, 2}, edge{1, 3, 4}, edge{3, 2, 3}), 3, 4},
		{"two cheap ones cost more than a dear one", graphOf(4, edge{0, 2, 4}, edge{2, 1, 7}, edge{1, 3, 4}), 2, 8},
		{"one dear one costs more than two cheap ones", graphOf(4, edge{0, 2, 3}, edge{2, 1, 8}, edge{1, 3, 3}), 2, 8},
		{"a node that was matched goes without", graphOf(3, edge{0, 2, 3}, edge{1, 2, 5}), 2, 5},
		{"one far behind goes without", graphOf(6, edge{0, 3, 9}, edge{0, 4, 8}, edge{1, 4, 9}, edge{1, 5, 8}, edge{2, 3, 9}, edge{1, 3, 1}), 3, 9 + 8 + 8},
		{"all must be matched anew", graphOf(6, edge{0, 3, 5}, edge{0, 4, 4}, edge{1, 4, 5}, edge{1, 5, 4}, edge{2, 3, 9}), 3, 4 + 4 + 9},
		{"more edges don't cost more", graphOf(4, edge{0, 2, 9}, edge{0, 3, 1}, edge{1, 2, 7}, edge{1, 3, -2}), 2, 9},
		{"an edge of cost 0 may be left", graphOf(4, edge{0, 2, 9}, edge{1, 3, 0}), 2, 9},
		{"parts that have nothing to do with one another", graphOf(8, edge{0, 4, 1}, edge{1, 4, 2}, edge{2, 6, 3}, edge{2, 7, 4}, edge{3, 7, 5}), 4, 2 + 3 + 5},
	} {
		if got := holdKinds(t, c.g, c.left); got != c.want {
			t.Errorf("%s: %d; it should be %d", c.name, got, c.want)
		}
		holdWords(t, c.g, c.left)
	}
}

// eachSided hands over each graph of so many edges between left nodes and some others, with each row of a few costs.
func eachSided(left, right, edges int, least, most int64, take func(g api.Graph)) {
	for number := range trial.Lists(edges, 0, left*right-1) {
		for costs := range trial.Lists(edges, least, most) {
			g := api.Graph{Nodes: left + right}
			for i, pair := range number {
				e := api.Edge{From: pair / right, To: left + pair%right, Cost: costs[i]}
				if i%2 == 1 {
					e.From, e.To = e.To, e.From
				}
				g.Edges = append(g.Edges, e)
			}
			take(g)
		}
	}
}

func TestP16_1AllSmallGraphs(t *testing.T) {
	for _, c := range []struct {
		left, right, edges int
		least, most        int64
	}{{1, 1, 3, -1, 2}, {1, 2, 3, -1, 2}, {2, 1, 3, -1, 2}, {2, 2, 3, -1, 3}, {2, 2, 4, 1, 3}, {3, 2, 3, 1, 2}, {2, 3, 4, 1, 2}} {
		eachSided(c.left, c.right, c.edges, c.least, c.most, func(g api.Graph) { holdWords(t, g, c.left) })
	}
}

func TestP16_1ScatteredGraphs(t *testing.T) {
	row := trial.NewScatter(161)
	for round := range 2000 {
		nodes := row.Between(2, 9)
		left := row.Between(1, nodes-1)
		most := []int{2, 9, api.MaxLabel}[round%3]
		holdWords(t, row.Sided(nodes, left, row.Below(12), -most/4, most), left)
	}
	for round := range 1500 {
		nodes := row.Between(2, 60)
		left := row.Between(1, nodes-1)
		most := []int{1, 6, api.MaxLabel}[round%3]
		holdKinds(t, row.Sided(nodes, left, row.Below(4*nodes), []int{-most, 0, most / 2}[round/3%3], most), left)
	}
}

// TestP16_1CapsDontMatter: nor do they change anything.
func TestP16_1CapsDontMatter(t *testing.T) {
	row := trial.NewScatter(162)
	for range 200 {
		g := row.Sided(12, 6, 20, -3, 9)
		wide := api.Graph{Nodes: 12, Edges: slices.Clone(g.Edges)}
		for i := range wide.Edges {
			wide.Edges[i].Cap = int64(row.Between(0, api.MaxLabel))
		}
		for _, kind := range kinds {
			match, pot, cost, _ := assign.Solve(g, 6, kind)
			other, weights, sum, _ := assign.Solve(wide, 6, kind)
			if !slices.Equal(match, other) || !slices.Equal(pot, weights) || cost != sum {
				t.Fatalf("%v: kind %d: %v, %v; with other capacities %v, %v", g, kind, match, pot, other, weights)
			}
		}
	}
}

// wantNone: an error, and nothing beside it.
func wantNone(t *testing.T, name string, match []int, pot []int64, cost int64, code, want api.Errno) {
	t.Helper()
	if len(match) != 0 || len(pot) != 0 || cost != 0 || code != want {
		t.Errorf("%s: %v, %v, %d, %v; it should be %v", name, match, pot, cost, code, want)
	}
}

// TestP16_1Refuses: in the order of the errors.
func TestP16_1Refuses(t *testing.T) {
	for _, kind := range append(notKinds(), kinds...) {
		for _, c := range trial.WrongGraphs() {
			for _, left := range append(outside(2), 0, 1, 2) {
				match, pot, cost, code := assign.Solve(c.Graph, left, kind)
				wantNone(t, "a wrong graph", match, pot, cost, code, c.Fault.Code)
			}
		}
		for _, left := range append(outside(4), 0, 1, 3, 4) {
			match, pot, cost, code := assign.Solve(example(), left, kind)
			wantNone(t, "wrong sides", match, pot, cost, code, api.ErrSides)
		}
		match, pot, cost, code := assign.Solve(graphOf(3, edge{0, 2, 5}, edge{1, 1, 5}), 2, kind)
		wantNone(t, "a loop", match, pot, cost, code, api.ErrSides)
	}
	for _, kind := range notKinds() {
		match, pot, cost, code := assign.Solve(example(), 2, kind)
		wantNone(t, "a wrong kind", match, pot, cost, code, api.ErrKind)
		match, pot, cost, code = assign.Solve(api.Graph{}, 0, kind)
		wantNone(t, "a wrong kind of nothing", match, pot, cost, code, api.ErrKind)
	}
}

// whole: all of the left side joined to all of the right side, by the costs that are told of each two.
func whole(left, right int, cost func(u, v int) int) api.Graph {
	g := api.Graph{Nodes: left + right}
	for u := range left {
		for v := range right {
			g.Edges = append(g.Edges, api.Edge{From: u, To: left + v, Cost: int64(cost(u, v))})
		}
	}
	return g
}

// chain: all costs are the same, and each node that is taken in wants the first of the right side, so that those ahead of it are gone through one after the other.
func chain(half int) api.Graph {
	g := api.Graph{Nodes: 2 * half}
	for i := range half {
		g.Edges = append(g.Edges, api.Edge{From: i, To: half, Cost: api.MaxLabel})
		if i > 0 {
			g.Edges = append(g.Edges, api.Edge{From: half + i, To: i, Cost: api.MaxLabel}, api.Edge{From: i - 1, To: half + i, Cost: api.MaxLabel})
		}
	}
	return g
}

// TestP16_1FullGraphs: as many nodes and edges as there may be.
func TestP16_1FullGraphs(t *testing.T) {
	const most = api.MaxLabel
	row := trial.NewScatter(163)
	for left := 1; left < api.MaxNodes; left += 73 {
		for _, least := range []int{-most, 1, most - 3} {
			holdKinds(t, row.Sided(api.MaxNodes, left, api.MaxEdges, least, most), left)
		}
		holdKinds(t, row.Sided(api.MaxNodes, left, api.MaxEdges, 1, 3), left)
	}
	for _, g := range []api.Graph{
		whole(64, 64, func(u, v int) int { return (u + 1) * (v + 1) }),
		whole(64, 64, func(u, v int) int { return most - u*v }),
		whole(64, 64, func(u, v int) int { return row.Between(1, most) }),
		whole(64, 64, func(u, v int) int { return most }),
	} {
		holdKinds(t, g, 64)
	}
	if got := holdKinds(t, whole(64, 64, func(u, v int) int { return most - (u-v)*(u-v) }), 64); got != 64*most {
		t.Errorf("each with its own: %d", got)
	}
	if got := holdKinds(t, whole(512, 8, func(u, v int) int { return u }), 512); got != 511+510+509+508+507+506+505+504 {
		t.Errorf("the last ones are worth most: %d", got)
	}
	if got := holdKinds(t, whole(8, 512, func(u, v int) int { return v + 1 }), 8); got != 512+511+510+509+508+507+506+505 {
		t.Errorf("few on the left: %d", got)
	}
	if got := holdKinds(t, chain(api.MaxNodes/2), api.MaxNodes/2); got != api.MaxNodes/2*most {
		t.Errorf("a chain: %d", got)
	}
}

// TestP2: the graph isn't changed, the same call answers the same, and no answer shares memory with anything.
func TestP2(t *testing.T) {
	row := trial.NewScatter(164)
	for range 300 {
		edges, same := trial.Watched(row.Sided(10, 4, row.Below(16), -2, 9).Edges, api.Edge{From: -7})
		g := api.Graph{Nodes: 10, Edges: edges}
		for _, kind := range kinds {
			match, pot, _, _ := assign.Solve(g, 4, kind)
			again, weights, cost, code := assign.Solve(g, 4, kind)
			kept, keptPot := slices.Clone(match), slices.Clone(pot)
			trial.Spoil(match, -7)
			trial.Spoil(pot, -7)
			third, thirdPot, thirdCost, thirdCode := assign.Solve(g, 4, kind)
			if !slices.Equal(again, kept) || !slices.Equal(third, kept) || !slices.Equal(weights, keptPot) || !slices.Equal(thirdPot, keptPot) {
				t.Fatal("an answer shares memory, or the same call answers otherwise")
			}
			if thirdCost != cost || thirdCode != code || !same() {
				t.Fatal("the graph is changed, or the same call answers otherwise")
			}
		}
	}
}
