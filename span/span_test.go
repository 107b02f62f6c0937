package span_test

import (
	"math"
	"math/bits"
	"slices"
	"testing"

	"compass/api"
	"compass/span"
	"compass/trial"
)

var kinds = []int{span.Kruskal, span.Prim, span.Boruvka}

// outside: numbers that none of n nodes have.
func outside(n int) []int { return []int{-1, n, n + 1, math.MinInt, math.MaxInt} }

// notKinds: numbers of no kind.
func notKinds() []int { return []int{0, 4, -1, 1 << 32, 1<<32 + 1, math.MinInt, math.MaxInt} }

// edge: From, To and Cost.
type edge [3]int

func graphOf(nodes int, edges ...edge) api.Graph {
	g := api.Graph{Nodes: nodes}
	for _, e := range edges {
		g.Edges = append(g.Edges, api.Edge{From: e[0], To: e[1], Cost: int64(e[2])})
	}
	return g
}

func triangle() api.Graph { return graphOf(3, edge{0, 1, 5}, edge{1, 2, 2}, edge{2, 0, 3}) }

// ahead: does edge i stand ahead of edge k in order?
func ahead(g api.Graph, i, k int) bool {
	a, b := g.Edges[i].Cost, g.Edges[k].Cost
	return a < b || a == b && i < k
}

// partsBy: for each node the least one that hangs together with it by those edges that are told.
func partsBy(g api.Graph, use func(i int) bool) []int {
	least := make([]int, g.Nodes)
	for v := range least {
		least[v] = v
	}
	for changed := true; changed; {
		changed = false
		for i, e := range g.Edges {
			if use(i) && least[e.From] != least[e.To] {
				both := min(least[e.From], least[e.To])
				least[e.From], least[e.To], changed = both, both, true
			}
		}
	}
	return least
}

// forestWords: the document's words, done as they stand.
func forestWords(g api.Graph) (forest []int, cost int64) {
	for k, e := range g.Edges {
		part := partsBy(g, func(i int) bool { return ahead(g, i, k) })
		if part[e.From] != part[e.To] {
			forest = append(forest, k)
			cost += e.Cost
		}
	}
	return forest, cost
}

// neckWords: likewise, of two nodes that aren't one.
func neckWords(g api.Graph, u, v int) (int, api.Errno) {
	neck, code := 0, api.ErrNoWay
	for k := range g.Edges {
		part := partsBy(g, func(i int) bool { return i == k || ahead(g, i, k) })
		if part[u] == part[v] && (code != api.OK || ahead(g, k, neck)) {
			neck, code = k, api.OK
		}
	}
	return neck, code
}

func holdForest(t *testing.T, g api.Graph, want []int, cost int64) {
	t.Helper()
	for _, kind := range kinds {
		if got, sum, code := span.Forest(g, kind); !slices.Equal(got, want) || sum != cost || code != api.OK {
			t.Fatalf("%v: Forest, kind %d: %v, %d, %v; it should be %v, %d", g, kind, got, sum, code, want, cost)
		}
	}
}

// holdWords: all calls answer of a right graph as the document's words say.
func holdWords(t *testing.T, g api.Graph) {
	t.Helper()
	forest, cost := forestWords(g)
	holdForest(t, g, forest, cost)
	for u := range g.Nodes {
		for v := range g.Nodes {
			want, wantCode := 0, api.ErrNone
			if u != v {
				want, wantCode = neckWords(g, u, v)
			}
			if got, code := span.Neck(g, u, v); got != want || code != wantCode {
				t.Fatalf("%v: Neck of %d and %d: %d, %v; it should be %d, %v", g, u, v, got, code, want, wantCode)
			}
		}
	}
}

func TestP10TheChaptersExamples(t *testing.T) {
	g := triangle()
	holdForest(t, g, []int{1, 2}, 5)
	if i, code := span.Neck(g, 0, 1); i != 2 || code != api.OK {
		t.Errorf("Neck: %d, %v", i, code)
	}
	if span.Kruskal != 1 || span.Prim != 2 || span.Boruvka != 3 {
		t.Error("the kinds' numbers aren't the document's")
	}
}

func TestP10_1Forest(t *testing.T) {
	for _, c := range []struct {
		name string
		g    api.Graph
		want []int
		cost int64
	}{
		{"nothing", api.Graph{}, nil, 0},
		{"one node", api.Graph{Nodes: 1}, nil, 0},
		{"nodes alone", api.Graph{Nodes: api.MaxNodes}, nil, 0},
		{"loops", graphOf(2, edge{0, 0, -5}, edge{1, 1, 0}), nil, 0},
		{"a dear edge is taken", graphOf(2, edge{1, 0, 9}), []int{0}, 9},
		{"of several edges the cheapest", graphOf(2, edge{0, 1, 4}, edge{1, 0, 3}, edge{0, 1, 3}), []int{1}, 3},
		{"of equal ones the first", graphOf(3, edge{2, 1, 1}, edge{1, 0, 1}, edge{0, 2, 1}), []int{0, 1}, 2},
		{"below 0 no circle either", graphOf(3, edge{0, 1, -1}, edge{1, 2, -1}, edge{2, 0, -1}), []int{0, 1}, -2},
		{"the way of an edge is nothing to it", graphOf(3, edge{0, 1, 5}, edge{2, 1, 2}, edge{0, 2, 3}), []int{1, 2}, 5},
		{"two parts", graphOf(6, edge{5, 3, 2}, edge{0, 4, 7}, edge{3, 5, 1}, edge{1, 0, 7}, edge{4, 1, 8}), []int{1, 2, 3}, 15},
		{"a square", graphOf(4, edge{0, 1, 1}, edge{2, 3, 1}, edge{1, 2, 1}, edge{3, 0, 1}), []int{0, 1, 2}, 3},
	} {
		for _, kind := range kinds {
			if got, cost, code := span.Forest(c.g, kind); !slices.Equal(got, c.want) || cost != c.cost || code != api.OK {
				t.Errorf("%s, kind %d: %v, %d, %v; it should be %v, %d", c.name, kind, got, cost, code, c.want, c.cost)
			}
		}
	}
}

func TestP10_1ForestRefusesKinds(t *testing.T) {
	for _, g := range []api.Graph{{}, {Nodes: 2}, triangle()} {
		for _, kind := range notKinds() {
			if got, cost, code := span.Forest(g, kind); len(got) != 0 || cost != 0 || code != api.ErrKind {
				t.Errorf("kind %d: %v, %d, %v", kind, got, cost, code)
			}
		}
	}
}

func TestP10_2Neck(t *testing.T) {
	// Two triangles, joined by edges 6 and 7; node 6 has a loop alone.
	g := graphOf(7, edge{0, 1, 4}, edge{1, 2, 4}, edge{2, 0, 4}, edge{3, 4, 1}, edge{5, 4, 2}, edge{5, 3, 3},
		edge{2, 3, 8}, edge{0, 5, 7}, edge{6, 6, -9})
	for _, c := range []struct {
		u, v, want int
		code       api.Errno
	}{
		{0, 1, 0, api.OK}, {0, 2, 1, api.OK}, {1, 2, 1, api.OK}, {3, 4, 3, api.OK}, {3, 5, 4, api.OK},
		{2, 3, 7, api.OK}, {1, 4, 7, api.OK}, {0, 5, 7, api.OK},
		{6, 0, 0, api.ErrNoWay}, {5, 6, 0, api.ErrNoWay},
		{6, 6, 0, api.ErrNone}, {0, 0, 0, api.ErrNone},
	} {
		for _, pair := range [][2]int{{c.u, c.v}, {c.v, c.u}} {
			if got, code := span.Neck(g, pair[0], pair[1]); got != c.want || code != c.code {
				t.Errorf("Neck of %v: %d, %v; it should be %d, %v", pair, got, code, c.want, c.code)
			}
		}
	}
	holdWords(t, g)
}

func TestP10_2NeckRefusesNodes(t *testing.T) {
	for _, g := range []api.Graph{{}, {Nodes: 1}, triangle()} {
		for _, wrong := range outside(g.Nodes) {
			for _, other := range append(outside(g.Nodes), 0, g.Nodes-1) {
				if got, code := span.Neck(g, wrong, other); got != 0 || code != api.ErrNode {
					t.Errorf("%d nodes: Neck of %d and %d: %d, %v", g.Nodes, wrong, other, got, code)
				}
				if got, code := span.Neck(g, other, wrong); got != 0 || code != api.ErrNode {
					t.Errorf("%d nodes: Neck of %d and %d: %d, %v", g.Nodes, other, wrong, got, code)
				}
			}
		}
	}
}

// TestP10AllSmallGraphs: each graph of so many nodes and edges, with each row of costs of a few.
func TestP10AllSmallGraphs(t *testing.T) {
	for _, c := range []struct {
		nodes, edges int
		costs        []int64
	}{
		{0, 0, []int64{0}},
		{1, 2, []int64{-1, 0}},
		{2, 3, []int64{-1, 0, 1}},
		{3, 3, []int64{-1, 0, 1}},
		{3, 4, []int64{1, -1}},
		{4, 3, []int64{2, 1}},
	} {
		rows := 1
		for range c.edges {
			rows *= len(c.costs)
		}
		for g := range trial.AllGraphs(c.nodes, c.edges) {
			for row := range rows {
				for i := range g.Edges {
					g.Edges[i].Cost = c.costs[row%len(c.costs)]
					row /= len(c.costs)
				}
				holdWords(t, g)
			}
		}
	}
}

// scattered: a graph with costs from least to most.
func scattered(row *trial.Scatter, nodes, edges, least, most int) api.Graph {
	g := row.Graph(nodes, edges)
	for i := range g.Edges {
		g.Edges[i].Cost = int64(row.Between(least, most))
	}
	return g
}

func TestP10ScatteredGraphs(t *testing.T) {
	row := trial.NewScatter(61)
	for round := range 400 {
		nodes := row.Between(1, 12)
		most := []int{0, 3, 20, api.MaxLabel}[round%4]
		holdWords(t, scattered(row, nodes, row.Below(3*nodes), []int{0, -most}[round/4%2], most))
	}
}

// TestP10_1NoneIsCheaper: of all sets of edges that hold together what hangs together, with as few as that takes, none is cheaper.
func TestP10_1NoneIsCheaper(t *testing.T) {
	row := trial.NewScatter(62)
	for range 300 {
		nodes := row.Between(1, 5)
		g := scattered(row, nodes, row.Below(8), -5, 9)
		whole := partsBy(g, func(int) bool { return true })
		fewest, cheapest := math.MaxInt, int64(math.MaxInt64)
		for set := range uint(1) << len(g.Edges) {
			in := func(i int) bool { return set>>i&1 == 1 }
			var cost int64
			for i, e := range g.Edges {
				if in(i) {
					cost += e.Cost
				}
			}
			count := bits.OnesCount(set)
			if slices.Equal(partsBy(g, in), whole) && (count < fewest || count == fewest && cost < cheapest) {
				fewest, cheapest = count, cost
			}
		}
		for _, kind := range kinds {
			forest, cost, code := span.Forest(g, kind)
			if len(forest) != fewest || cost != cheapest || code != api.OK {
				t.Fatalf("%v: Forest, kind %d: %v, %d, %v; there are %d edges that cost %d", g, kind, forest, cost, code, fewest, cheapest)
			}
			if !slices.Equal(partsBy(g, func(i int) bool { return slices.Contains(forest, i) }), whole) {
				t.Fatalf("%v: Forest, kind %d: %v doesn't hold it together", g, kind, forest)
			}
		}
	}
}

// forestInOrder: the forest found by taking all edges in order, for graphs that are too great for the words.
func forestInOrder(g api.Graph) (forest []int, cost int64) {
	name := make([]int, g.Nodes)
	for v := range name {
		name[v] = v
	}
	order := make([]int, len(g.Edges))
	for i := range order {
		order[i] = i
	}
	slices.SortStableFunc(order, func(i, k int) int { return int(g.Edges[i].Cost - g.Edges[k].Cost) })
	for _, i := range order {
		from, to := name[g.Edges[i].From], name[g.Edges[i].To]
		if from == to {
			continue
		}
		for v := range name {
			if name[v] == from {
				name[v] = to
			}
		}
		forest = append(forest, i)
		cost += g.Edges[i].Cost
	}
	slices.Sort(forest)
	return forest, cost
}

// neckOfForest: the last edge in order on the way between two nodes in the forest.
func neckOfForest(g api.Graph, forest []int, u, v int) (int, api.Errno) {
	last := make([]int, g.Nodes) // of the way from u to each
	come := make([]bool, g.Nodes)
	come[u] = true
	last[u] = -1
	for changed := true; changed; {
		changed = false
		for _, i := range forest {
			from, to := g.Edges[i].From, g.Edges[i].To
			if come[from] == come[to] {
				continue
			}
			if come[to] {
				from, to = to, from
			}
			come[to], changed = true, true
			last[to] = i
			if last[from] >= 0 && ahead(g, i, last[from]) {
				last[to] = last[from]
			}
		}
	}
	if !come[v] {
		return 0, api.ErrNoWay
	}
	return last[v], api.OK
}

// TestP10FullGraphs: as many nodes and edges as there may be.
func TestP10FullGraphs(t *testing.T) {
	row := trial.NewScatter(63)
	all := []api.Graph{{Nodes: 1, Edges: make([]api.Edge, api.MaxEdges)}, row.Graph(api.MaxNodes, api.MaxEdges)}
	for _, nodes := range []int{2, 91, api.MaxNodes} {
		for _, most := range []int{0, 2, api.MaxLabel} {
			all = append(all, scattered(row, nodes, api.MaxEdges, -most, most))
		}
	}
	for _, g := range append(all, scattered(row, api.MaxNodes, api.MaxNodes/2, 0, 9)) {
		forest, cost := forestInOrder(g)
		holdForest(t, g, forest, cost)
		for range 10 {
			u, v := row.Below(g.Nodes), row.Below(g.Nodes)
			want, wantCode := 0, api.ErrNone
			if u != v {
				want, wantCode = neckOfForest(g, forest, u, v)
			}
			if got, code := span.Neck(g, u, v); got != want || code != wantCode {
				t.Fatalf("%d nodes: Neck of %d and %d: %d, %v; it should be %d, %v", g.Nodes, u, v, got, code, want, wantCode)
			}
		}
	}
}

// TestP10LongChains: all nodes one behind the other, with the costs at their limits and rising, falling or equal along it.
func TestP10LongChains(t *testing.T) {
	const n = api.MaxNodes
	for _, step := range []int64{-1, 0, 1} {
		for _, first := range []int64{0, api.MaxLabel, -api.MaxLabel} {
			if first*step > 0 { // beyond the limits
				continue
			}
			g := api.Graph{Nodes: n}
			var want []int
			var cost int64
			for v := range n - 1 {
				e := api.Edge{From: v + 1, To: v, Cost: first + int64(v)*step}
				g.Edges = append(g.Edges, e)
				want = append(want, v)
				cost += e.Cost
			}
			g.Edges = append(g.Edges, api.Edge{From: 0, To: n - 1, Cost: api.MaxLabel}) // closes a circle, last in order
			holdForest(t, g, want, cost)
			neck := n - 2
			if step < 0 {
				neck = 0
			}
			if got, code := span.Neck(g, 0, n-1); got != neck || code != api.OK {
				t.Errorf("from %d by %d: Neck: %d, %v; it should be %d", first, step, got, code, neck)
			}
		}
	}
}

func TestP10CapacitiesDontMatter(t *testing.T) {
	row := trial.NewScatter(64)
	for range 200 {
		g := scattered(row, 9, row.Below(20), -3, 3)
		forest, cost := forestWords(g)
		for i := range g.Edges {
			g.Edges[i].Cap = int64(i % 2 * api.MaxLabel)
		}
		holdForest(t, g, forest, cost)
	}
}

// TestP10WrongGraphsAreRefused: ahead of any other error.
func TestP10WrongGraphsAreRefused(t *testing.T) {
	for _, c := range trial.WrongGraphs() {
		for _, kind := range append(notKinds(), kinds...) {
			if forest, cost, code := span.Forest(c.Graph, kind); len(forest) != 0 || cost != 0 || code != c.Fault.Code {
				t.Errorf("a graph with fault %v: Forest, kind %d: %v, %d, %v", c.Fault, kind, forest, cost, code)
			}
		}
		for _, pair := range [][2]int{{0, 1}, {0, 0}, {-1, 0}, {0, math.MaxInt}, {math.MinInt, math.MinInt}} {
			if neck, code := span.Neck(c.Graph, pair[0], pair[1]); neck != 0 || code != c.Fault.Code {
				t.Errorf("a graph with fault %v: Neck of %v: %d, %v", c.Fault, pair, neck, code)
			}
		}
	}
}

// TestP2: graphs aren't changed, the same call answers the same, and no answer shares memory with anything.
func TestP2(t *testing.T) {
	row := trial.NewScatter(65)
	for range 300 {
		plain := scattered(row, 8, row.Below(20), -5, 5)
		edges, same := trial.Watched(plain.Edges, api.Edge{From: -7})
		g := api.Graph{Nodes: 8, Edges: edges}
		neck, neckCode := span.Neck(g, 0, 5)
		for _, kind := range kinds {
			first, _, _ := span.Forest(g, kind)
			second, cost, _ := span.Forest(g, kind)
			kept := slices.Clone(second)
			trial.Spoil(first, -7)
			third, again, _ := span.Forest(g, kind)
			if !slices.Equal(second, kept) || !slices.Equal(second, third) || cost != again || !same() {
				t.Fatal("an answer shares memory, or a graph is changed")
			}
		}
		if again, code := span.Neck(g, 0, 5); again != neck || code != neckCode || !same() {
			t.Fatal("Neck answers otherwise, or changes a graph")
		}
	}
}
