package short_test

import (
	"math"
	"slices"
	"testing"

	"compass/api"
	"compass/heaps"
	"compass/short"
	"compass/trial"
)

var kinds = []int{heaps.Binary, heaps.Pairing, heaps.Fibonacci, heaps.Radix}

// outside: numbers that none of n nodes have.
func outside(n int) []int { return []int{-1, n, n + 1, math.MinInt, math.MaxInt} }

// notKinds: numbers of no kind of heap.
func notKinds() []int { return []int{0, 5, -1, 1 << 32, 1<<32 + 1, math.MinInt, math.MaxInt} }

// edge: From, To and Cost.
type edge [3]int

func graphOf(nodes int, edges ...edge) api.Graph {
	g := api.Graph{Nodes: nodes}
	for _, e := range edges {
		g.Edges = append(g.Edges, api.Edge{From: e[0], To: e[1], Cost: int64(e[2])})
	}
	return g
}

func noTree(tree short.Tree) bool { return len(tree.Dist) == 0 && len(tree.Via) == 0 }

// costOf a way from s: its cost and where it ends; it fails, if the edges don't hang together.
func costOf(t *testing.T, g api.Graph, s int, way []int) (cost int64, end int) {
	t.Helper()
	for _, i := range way {
		if i < 0 || i >= len(g.Edges) || g.Edges[i].From != s {
			t.Fatalf("%v: no way: %v", g, way)
		}
		cost += g.Edges[i].Cost
		s = g.Edges[i].To
	}
	return cost, s
}

// wantCheapCircle: the edges are a circle that costs less than 0.
func wantCheapCircle(t *testing.T, g api.Graph, circle []int) {
	t.Helper()
	if len(circle) == 0 || circle[0] < 0 || circle[0] >= len(g.Edges) {
		t.Fatalf("%v: no circle: %v", g, circle)
	}
	first := g.Edges[circle[0]].From
	cost, end := costOf(t, g, first, circle)
	if end != first || cost >= 0 {
		t.Fatalf("%v: %v goes from %d to %d, cost %d", g, circle, first, end, cost)
	}
	seen := make([]bool, g.Nodes)
	for _, i := range circle {
		if seen[g.Edges[i].From] {
			t.Fatalf("%v: %v has node %d twice", g, circle, g.Edges[i].From)
		}
		seen[g.Edges[i].From] = true
	}
}

// wantTree: ways back to s that cost what Dist says, which no edge makes cheaper: so there are no cheaper ones.
func wantTree(t *testing.T, g api.Graph, s int, tree short.Tree) {
	t.Helper()
	if len(tree.Dist) != g.Nodes || len(tree.Via) != g.Nodes {
		t.Fatalf("%v: the tree from %d is %v", g, s, tree)
	}
	if tree.Dist[s] != 0 || tree.Via[s] != -1 {
		t.Fatalf("%v: the first node has %d, by %d", g, tree.Dist[s], tree.Via[s])
	}
	for v, dist := range tree.Dist {
		if dist == short.Far {
			if tree.Via[v] != -1 {
				t.Fatalf("%v: node %d isn't reached, by %d", g, v, tree.Via[v])
			}
			continue
		}
		if way := wayBack(t, g, s, v, tree.Via); sumOf(g, way) != dist {
			t.Fatalf("%v: Dist of %d is %d, by %v", g, v, dist, way)
		}
	}
	for _, e := range g.Edges {
		if from := tree.Dist[e.From]; from != short.Far && tree.Dist[e.To] > from+e.Cost {
			t.Fatalf("%v: edge %v makes %v better", g, e, tree.Dist)
		}
	}
}

// wayBack: the edges by which one goes back from v to s.
func wayBack(t *testing.T, g api.Graph, s, v int, via []int) []int {
	t.Helper()
	var way []int
	for u := v; u != s; u = g.Edges[via[u]].From {
		if via[u] < 0 || via[u] >= len(g.Edges) || g.Edges[via[u]].To != u || len(way) >= g.Nodes {
			t.Fatalf("%v: from %d by %v one doesn't come back to %d", g, v, via, s)
		}
		way = append(way, via[u])
	}
	return way
}

func sumOf(g api.Graph, edges []int) int64 {
	var sum int64
	for _, i := range edges {
		sum += g.Edges[i].Cost
	}
	return sum
}

func reached(g api.Graph, s int) []bool {
	in := make([]bool, g.Nodes)
	in[s] = true
	for range g.Nodes {
		for _, e := range g.Edges {
			in[e.To] = in[e.To] || in[e.From]
		}
	}
	return in
}

// words is what the document's words say of a graph, found by going along all ways and circles without a node twice.
type words struct {
	g    api.Graph
	dist [][]int64 // the least cost of such a way from each node to each
	bad  []bool    // is each on a circle that costs less than 0?
}

func wordsOf(g api.Graph) *words {
	w := &words{g: g, bad: make([]bool, g.Nodes)}
	for s := range g.Nodes {
		w.dist = append(w.dist, slices.Repeat([]int64{short.Far}, g.Nodes))
		w.along(s, s, 0, make([]bool, g.Nodes))
	}
	return w
}

func (w *words) along(s, v int, cost int64, on []bool) {
	w.dist[s][v] = min(w.dist[s][v], cost)
	on[v] = true
	for _, e := range w.g.Edges {
		switch {
		case e.From != v:
		case e.To == s:
			w.bad[s] = w.bad[s] || cost+e.Cost < 0
		case !on[e.To]:
			w.along(s, e.To, cost+e.Cost, on)
		}
	}
	on[v] = false
}

// minus: can the nodes of a circle that costs less than 0 be reached from s?
func (w *words) minus(s int) bool {
	for v, bad := range w.bad {
		if bad && w.dist[s][v] != short.Far {
			return true
		}
	}
	return false
}

// holdBellman: Bellman and Way answer of a right graph and its node s as they must; the tree.
func holdBellman(t *testing.T, g api.Graph, s int) (short.Tree, api.Errno) {
	t.Helper()
	tree, circle, code := short.Bellman(g, s)
	switch code {
	case api.OK:
		if len(circle) != 0 {
			t.Fatalf("%v: a circle without an error: %v", g, circle)
		}
		wantTree(t, g, s, tree)
	case api.ErrMinus:
		if !noTree(tree) {
			t.Fatalf("%v: a tree beside an error: %v", g, tree)
		}
		wantCheapCircle(t, g, circle)
		if !reached(g, s)[g.Edges[circle[0]].From] {
			t.Fatalf("%v: circle %v can't be reached from %d", g, circle, s)
		}
	default:
		t.Fatalf("%v: Bellman from %d: %v", g, s, code)
	}
	return tree, code
}

func holdWay(t *testing.T, g api.Graph, s, v int, tree short.Tree, bellman api.Errno) {
	t.Helper()
	way, cost, code := short.Way(g, s, v)
	want := bellman
	if want == api.OK && tree.Dist[v] == short.Far {
		want = api.ErrNoWay
	}
	if code != want {
		t.Fatalf("%v: Way from %d to %d: %v; it should be %v", g, s, v, code, want)
	}
	if code != api.OK {
		if len(way) != 0 || cost != 0 {
			t.Fatalf("%v: Way from %d to %d: %v, %d beside %v", g, s, v, way, cost, code)
		}
		return
	}
	if sum, end := costOf(t, g, s, way); end != v || sum != cost || cost != tree.Dist[v] {
		t.Fatalf("%v: Way from %d to %d: %v, %d; it ends at %d and costs %d; Dist %d", g, s, v, way, cost, end, sum, tree.Dist[v])
	}
}

func holdPotentials(t *testing.T, g api.Graph) ([]int64, api.Errno) {
	t.Helper()
	pot, circle, code := short.Potentials(g)
	switch code {
	case api.OK:
		if len(circle) != 0 || len(pot) != g.Nodes {
			t.Fatalf("%v: Potentials: %v, %v", g, pot, circle)
		}
		for _, e := range g.Edges {
			if pot[e.To] > pot[e.From]+e.Cost {
				t.Fatalf("%v: edge %v makes %v better", g, e, pot)
			}
		}
	case api.ErrMinus:
		if len(pot) != 0 {
			t.Fatalf("%v: potentials beside an error: %v", g, pot)
		}
		wantCheapCircle(t, g, circle)
	default:
		t.Fatalf("%v: Potentials: %v", g, code)
	}
	return pot, code
}

func holdDijkstra(t *testing.T, g api.Graph, s int, dist []int64) {
	t.Helper()
	minus := slices.ContainsFunc(g.Edges, func(e api.Edge) bool { return e.Cost < 0 })
	for _, kind := range kinds {
		tree, code := short.Dijkstra(g, s, kind)
		if minus {
			if code != api.ErrMinus || !noTree(tree) {
				t.Fatalf("%v: Dijkstra from %d, kind %d: %v, %v", g, s, kind, tree, code)
			}
			continue
		}
		if code != api.OK {
			t.Fatalf("%v: Dijkstra from %d, kind %d: %v", g, s, kind, code)
		}
		wantTree(t, g, s, tree)
		if !slices.Equal(tree.Dist, dist) {
			t.Fatalf("%v: Dijkstra from %d, kind %d: %v; it should be %v", g, s, kind, tree.Dist, dist)
		}
	}
}

// hold: all calls answer of a right graph as the proofs within their answers say.
func hold(t *testing.T, g api.Graph, starts ...int) {
	t.Helper()
	for _, s := range starts {
		tree, code := holdBellman(t, g, s)
		holdDijkstra(t, g, s, tree.Dist)
		for v := range g.Nodes {
			if g.Nodes < 40 || v%97 == 0 {
				holdWay(t, g, s, v, tree, code)
			}
		}
	}
	holdPotentials(t, g)
}

// holdWords: all calls answer of a small right graph as the document's words say.
func holdWords(t *testing.T, g api.Graph) {
	t.Helper()
	w := wordsOf(g)
	least := make([]int64, g.Nodes)
	for s, dist := range w.dist {
		tree, code := holdBellman(t, g, s)
		if w.minus(s) != (code == api.ErrMinus) || code == api.OK && !slices.Equal(tree.Dist, dist) {
			t.Fatalf("%v: Bellman from %d: %v, %v; Dist should be %v", g, s, tree, code, dist)
		}
		holdDijkstra(t, g, s, dist)
		for v := range g.Nodes {
			holdWay(t, g, s, v, tree, code)
			least[v] = min(least[v], dist[v])
		}
	}
	pot, code := holdPotentials(t, g)
	if minus := slices.Contains(w.bad, true); minus != (code == api.ErrMinus) || !minus && !slices.Equal(pot, least) {
		t.Fatalf("%v: Potentials: %v, %v; they should be %v", g, pot, code, least)
	}
}

func triangle() api.Graph { return graphOf(4, edge{0, 2, 9}, edge{0, 1, 2}, edge{1, 2, 3}) }

func TestP8TheChaptersExamples(t *testing.T) {
	g := triangle()
	dist, via := []int64{0, 2, 5, short.Far}, []int{-1, 1, 2, -1}
	for _, kind := range kinds {
		if tree, code := short.Dijkstra(g, 0, kind); !slices.Equal(tree.Dist, dist) || !slices.Equal(tree.Via, via) || code != api.OK {
			t.Errorf("Dijkstra, kind %d: %v, %v", kind, tree, code)
		}
	}
	if tree, circle, code := short.Bellman(g, 0); !slices.Equal(tree.Dist, dist) || !slices.Equal(tree.Via, via) || len(circle) != 0 || code != api.OK {
		t.Errorf("Bellman: %v, %v, %v", tree, circle, code)
	}
	if way, cost, code := short.Way(g, 0, 2); !slices.Equal(way, []int{1, 2}) || cost != 5 || code != api.OK {
		t.Errorf("Way: %v, %d, %v", way, cost, code)
	}
	g.Edges = append(g.Edges, api.Edge{From: 1, To: 1, Cost: -1})
	if tree, circle, code := short.Bellman(g, 0); !noTree(tree) || !slices.Equal(circle, []int{3}) || code != api.ErrMinus {
		t.Errorf("Bellman with a loop below 0: %v, %v, %v", tree, circle, code)
	}
	if pot, circle, code := short.Potentials(g); len(pot) != 0 || !slices.Equal(circle, []int{3}) || code != api.ErrMinus {
		t.Errorf("Potentials with a loop below 0: %v, %v, %v", pot, circle, code)
	}
}

func TestP8FarIsTheDocuments(t *testing.T) {
	if short.Far != 4611686018427387904 {
		t.Errorf("Far: %d", int64(short.Far))
	}
}

func TestP8_1DijkstraRefuses(t *testing.T) {
	below := graphOf(3, edge{0, 1, 2}, edge{2, 2, -1}) // below 0 where nothing is reached
	for _, g := range []api.Graph{triangle(), below, {}, {Nodes: 1}} {
		for _, s := range outside(g.Nodes) {
			for _, kind := range append(notKinds(), kinds...) {
				if tree, code := short.Dijkstra(g, s, kind); !noTree(tree) || code != api.ErrNode {
					t.Errorf("Dijkstra from %d, kind %d: %v, %v", s, kind, tree, code)
				}
			}
		}
	}
	for _, g := range []api.Graph{triangle(), below, {Nodes: 1}} {
		for _, kind := range notKinds() {
			if tree, code := short.Dijkstra(g, 0, kind); !noTree(tree) || code != api.ErrKind {
				t.Errorf("Dijkstra, kind %d: %v, %v", kind, tree, code)
			}
		}
	}
	for _, kind := range kinds {
		if tree, code := short.Dijkstra(below, 0, kind); !noTree(tree) || code != api.ErrMinus {
			t.Errorf("Dijkstra with a cost below 0, kind %d: %v, %v", kind, tree, code)
		}
	}
}

func TestP8_2BellmanRefuses(t *testing.T) {
	bad := graphOf(3, edge{0, 0, -1})
	for _, g := range []api.Graph{triangle(), bad, {}, {Nodes: 1}} {
		for _, s := range outside(g.Nodes) {
			if tree, circle, code := short.Bellman(g, s); !noTree(tree) || len(circle) != 0 || code != api.ErrNode {
				t.Errorf("Bellman from %d: %v, %v, %v", s, tree, circle, code)
			}
		}
	}
}

// TestP8_2OnlyWhatIsReachedCounts: a circle below 0 that can't be reached, or that only leads to s, is nothing to it.
func TestP8_2OnlyWhatIsReachedCounts(t *testing.T) {
	for _, g := range []api.Graph{
		graphOf(4, edge{2, 3, -5}, edge{3, 2, 4}, edge{0, 1, 1}),
		graphOf(4, edge{2, 3, -5}, edge{3, 2, 4}, edge{3, 0, -1}, edge{0, 1, 1}),
		graphOf(4, edge{3, 3, -1}, edge{3, 1, -9}, edge{0, 1, 1}),
	} {
		if tree, circle, code := short.Bellman(g, 0); !slices.Equal(tree.Dist, []int64{0, 1, short.Far, short.Far}) || len(circle) != 0 || code != api.OK {
			t.Errorf("%v: Bellman: %v, %v, %v", g, tree, circle, code)
		}
		if way, cost, code := short.Way(g, 0, 1); len(way) != 1 || cost != 1 || code != api.OK {
			t.Errorf("%v: Way: %v, %d, %v", g, way, cost, code)
		}
		holdWords(t, g)
		if _, code := holdPotentials(t, g); code != api.ErrMinus {
			t.Errorf("%v: Potentials: %v", g, code)
		}
	}
}

// TestP8_2ThroughTheFirstNode: circles that s is on, of cost 0 and below.
func TestP8_2ThroughTheFirstNode(t *testing.T) {
	even := graphOf(3, edge{0, 1, 4}, edge{1, 2, -7}, edge{2, 0, 3}, edge{1, 1, 0}, edge{0, 0, 0})
	tree, circle, code := short.Bellman(even, 0)
	if !slices.Equal(tree.Dist, []int64{0, 4, -3}) || !slices.Equal(tree.Via, []int{-1, 0, 1}) || len(circle) != 0 || code != api.OK {
		t.Errorf("a circle of cost 0: %v, %v, %v", tree, circle, code)
	}
	even.Edges[2].Cost = 2
	if tree, circle, code := short.Bellman(even, 0); !noTree(tree) || len(circle) != 3 || code != api.ErrMinus {
		t.Errorf("a circle of cost -1: %v, %v, %v", tree, circle, code)
	}
	holdWords(t, even)
}

func TestP8_3Potentials(t *testing.T) {
	for _, c := range []struct {
		g    api.Graph
		want []int64
	}{
		{api.Graph{}, nil},
		{api.Graph{Nodes: 3}, []int64{0, 0, 0}},
		{triangle(), []int64{0, 0, 0, 0}},
		{graphOf(4, edge{0, 1, 5}, edge{1, 2, -3}, edge{2, 3, -4}, edge{3, 1, 7}), []int64{0, 0, -3, -7}},
		{graphOf(3, edge{2, 1, -2}, edge{1, 0, -2}, edge{2, 0, -3}), []int64{-4, -2, 0}},
		{graphOf(4, edge{0, 1, -1}, edge{2, 1, -2}, edge{1, 3, 1}), []int64{0, -2, 0, -1}},
	} {
		if pot, circle, code := short.Potentials(c.g); !slices.Equal(pot, c.want) || len(circle) != 0 || code != api.OK {
			t.Errorf("Potentials(%v): %v, %v, %v; they should be %v", c.g, pot, circle, code, c.want)
		}
	}
}

func TestP8_4WayRefuses(t *testing.T) {
	g := triangle()
	bad := graphOf(3, edge{0, 1, 1}, edge{0, 2, 1}, edge{2, 2, -1})
	for _, c := range []struct {
		g    api.Graph
		s, v int
		want api.Errno
	}{
		{g, -1, 0, api.ErrNode}, {g, 4, 9, api.ErrNode}, {g, 0, -1, api.ErrNode}, {g, 0, 4, api.ErrNode},
		{g, 3, math.MaxInt, api.ErrNode}, {g, math.MinInt, 3, api.ErrNode}, {api.Graph{}, 0, 0, api.ErrNode},
		{g, 0, 3, api.ErrNoWay}, {g, 2, 0, api.ErrNoWay}, {g, 3, 1, api.ErrNoWay},
		{bad, 0, 1, api.ErrMinus}, // though that way doesn't come near the loop
		{bad, 0, 0, api.ErrMinus}, {bad, 2, 1, api.ErrMinus},
		{bad, 0, 7, api.ErrMinus}, {bad, 2, -1, api.ErrMinus}, // Bellman's error is named first
		{bad, 7, 7, api.ErrNode}, {bad, 1, 7, api.ErrNode}, {bad, 1, 0, api.ErrNoWay},
	} {
		if way, cost, code := short.Way(c.g, c.s, c.v); len(way) != 0 || cost != 0 || code != c.want {
			t.Errorf("%v: Way from %d to %d: %v, %d, %v; it should be %v", c.g, c.s, c.v, way, cost, code, c.want)
		}
	}
}

func TestP8_4WayToItself(t *testing.T) {
	for _, g := range []api.Graph{{Nodes: 1}, triangle(), graphOf(2, edge{0, 0, 0}, edge{0, 1, -3}, edge{1, 0, 3})} {
		for s := range g.Nodes {
			if way, cost, code := short.Way(g, s, s); len(way) != 0 || cost != 0 || code != api.OK {
				t.Errorf("%v: Way from %d to itself: %v, %d, %v", g, s, way, cost, code)
			}
		}
	}
}

// told is what all calls answer of a graph and two nodes.
type told struct {
	lists [][]int
	costs [][]int64
	codes []api.Errno
}

func tell(g api.Graph, s, v int) told {
	x := told{}
	for _, kind := range kinds {
		tree, code := short.Dijkstra(g, s, kind)
		x.lists, x.costs, x.codes = append(x.lists, tree.Via), append(x.costs, tree.Dist), append(x.codes, code)
	}
	tree, circle, bellman := short.Bellman(g, s)
	pot, round, potentials := short.Potentials(g)
	way, cost, last := short.Way(g, s, v)
	x.lists = append(x.lists, tree.Via, circle, round, way)
	x.costs = append(x.costs, tree.Dist, pot, []int64{cost})
	x.codes = append(x.codes, bellman, potentials, last)
	return x
}

func sameTold(a, b told) bool {
	return slices.Equal(a.codes, b.codes) && slices.EqualFunc(a.lists, b.lists, slices.Equal[[]int]) && slices.EqualFunc(a.costs, b.costs, slices.Equal[[]int64])
}

// TestP8WrongGraphsAreRefused: by all calls, ahead of any other error.
func TestP8WrongGraphsAreRefused(t *testing.T) {
	for _, c := range trial.WrongGraphs() {
		for _, s := range []int{0, -1} {
			got := tell(c.Graph, s, 0)
			for _, code := range got.codes {
				if code != c.Fault.Code {
					t.Errorf("a graph with fault %v: %v", c.Fault, got.codes)
				}
			}
			for _, list := range got.lists {
				if len(list) != 0 {
					t.Errorf("a graph with fault %v: %v", c.Fault, got.lists)
				}
			}
			for _, list := range got.costs[:len(got.costs)-1] {
				if len(list) != 0 {
					t.Errorf("a graph with fault %v: %v", c.Fault, got.costs)
				}
			}
			if tree, code := short.Dijkstra(c.Graph, s, 0); !noTree(tree) || code != c.Fault.Code {
				t.Errorf("a graph with fault %v, and no kind: %v", c.Fault, code)
			}
		}
	}
}

// TestP8AllSmallGraphs: each graph of so many nodes and edges, with each row of costs of a few.
func TestP8AllSmallGraphs(t *testing.T) {
	for _, c := range []struct {
		nodes, edges int
		costs        []int64
	}{
		{1, 3, []int64{-1, 0, 1}},
		{2, 4, []int64{-2, 0, 1}},
		{3, 3, []int64{-2, -1, 0, 1}},
		{3, 4, []int64{0, 1}},
		{3, 4, []int64{-1, 1}},
		{4, 3, []int64{-1, 1}},
	} {
		rows := 1
		for range c.edges {
			rows *= len(c.costs)
		}
		for g := range trial.AllGraphs(c.nodes, c.edges) {
			for row := range rows {
				for i := range g.Edges {
					g.Edges[i].Cost = c.costs[row%len(c.costs)]
					row /= len(c.costs)
				}
				holdWords(t, g)
			}
		}
	}
}

// scattered: a graph with costs from least to most, that are made so that many circles cost about nothing.
func scattered(row *trial.Scatter, nodes, edges, least, most int, even bool) api.Graph {
	g := row.Graph(nodes, edges)
	height := make([]int64, nodes)
	for v := range height {
		height[v] = int64(row.Between(least, most))
	}
	for i, e := range g.Edges {
		g.Edges[i].Cost = int64(row.Between(least, most))
		if even {
			g.Edges[i].Cost = height[e.To] - height[e.From] + int64(row.Below(3))
			if row.Below(4*edges) == 0 {
				g.Edges[i].Cost--
			}
		}
	}
	return g
}

func TestP8ScatteredSmallGraphs(t *testing.T) {
	row := trial.NewScatter(41)
	for round := range 6000 {
		nodes := row.Between(1, 6)
		least := []int{-10, -3, 0, -1}[round%4]
		holdWords(t, scattered(row, nodes, row.Below(2*nodes+2), least, row.Between(0, 9), round%3 == 0))
	}
}

func TestP8ScatteredGraphs(t *testing.T) {
	row := trial.NewScatter(42)
	for round := range 600 {
		nodes := row.Between(5, 60)
		least := []int{0, -1, -30, -100000}[round%4]
		g := scattered(row, nodes, row.Below(4*nodes), least, row.Between(0, 100000), round%3 > 0)
		hold(t, g, row.Below(nodes), 0)
	}
}

// TestP8FullGraphs: as many nodes and edges as there may be.
func TestP8FullGraphs(t *testing.T) {
	row := trial.NewScatter(43)
	for _, nodes := range []int{2, 70, api.MaxNodes} {
		for _, least := range []int{0, 1, -api.MaxLabel} {
			hold(t, scattered(row, nodes, api.MaxEdges, least, api.MaxLabel, false), 0, nodes-1)
		}
		hold(t, scattered(row, nodes, api.MaxEdges, 0, api.MaxLabel/2, true), 0, nodes-1)
	}
	hold(t, row.Graph(api.MaxNodes, api.MaxEdges), 0, 500)
}

// chain: a way through all nodes, each edge of the same cost. Falling, the edges stand so that each round of relaxing makes but one step.
func chain(nodes int, cost int64, falling bool) api.Graph {
	g := api.Graph{Nodes: nodes}
	for v := 1; v < nodes; v++ {
		g.Edges = append(g.Edges, api.Edge{From: v - 1, To: v, Cost: cost})
	}
	if falling {
		slices.Reverse(g.Edges)
	}
	return g
}

func TestP8LongChains(t *testing.T) {
	const n = api.MaxNodes
	for _, cost := range []int64{api.MaxLabel, 1, 0, -1, -api.MaxLabel} {
		for _, falling := range []bool{false, true} {
			g := chain(n, cost, falling)
			hold(t, g, 0, n/2, n-1)
			tree, _, code := short.Bellman(g, 0)
			if code != api.OK || tree.Dist[n-1] != (n-1)*cost {
				t.Errorf("cost %d: Bellman: %v", cost, code)
			}
			pot, _, code := short.Potentials(g)
			if code != api.OK || pot[n-1] != min(0, (n-1)*cost) {
				t.Errorf("cost %d: Potentials: %v", cost, code)
			}
			if way, sum, code := short.Way(g, 0, n-1); len(way) != n-1 || sum != (n-1)*cost || code != api.OK {
				t.Errorf("cost %d: Way: %d edges, %d, %v", cost, len(way), sum, code)
			}
		}
	}
}

// TestP8LongCircles: a circle of all nodes that costs 0, or 1 less, wherever the edge stands that closes it.
func TestP8LongCircles(t *testing.T) {
	const n = api.MaxNodes
	for _, cost := range []int64{api.MaxLabel / n, 1, -1, -api.MaxLabel / n} {
		for _, falling := range []bool{false, true} {
			for _, first := range []bool{false, true} {
				for _, less := range []int64{0, 1} {
					closing := api.Edge{From: n - 1, To: 0, Cost: -(n-1)*cost - less}
					g := chain(n, cost, falling)
					g.Edges = append(g.Edges, closing)
					if first {
						slices.Reverse(g.Edges[:n])
					}
					hold(t, g, 0, n/2)
					_, circle, code := short.Bellman(g, n/2)
					_, round, other := short.Potentials(g)
					if less == 0 && (code != api.OK || other != api.OK) || less == 1 && (len(circle) != n || len(round) != n) {
						t.Errorf("cost %d, %d less: %v, %v, %d and %d edges", cost, less, code, other, len(circle), len(round))
					}
				}
			}
		}
	}
}

// TestP8DeepestCosts: circles that cost as little as can be, gone round in every round.
func TestP8DeepestCosts(t *testing.T) {
	row := trial.NewScatter(44)
	for _, nodes := range []int{1, 2, 3, 500, api.MaxNodes} {
		g := row.Graph(nodes, api.MaxEdges)
		for i := range g.Edges {
			g.Edges[i] = api.Edge{From: i % nodes, To: (i + 1) % nodes, Cost: -api.MaxLabel}
		}
		hold(t, g, 0, nodes-1)
		if _, _, code := short.Bellman(g, nodes-1); code != api.ErrMinus {
			t.Errorf("%d nodes: Bellman: %v", nodes, code)
		}
	}
}

func TestP8CapacitiesDontMatter(t *testing.T) {
	row := trial.NewScatter(45)
	for round := range 300 {
		g := scattered(row, 9, row.Below(20), []int{0, -3}[round%2], 9, false)
		bare := api.Graph{Nodes: 9}
		for _, e := range g.Edges {
			bare.Edges = append(bare.Edges, api.Edge{From: e.From, To: e.To, Cost: e.Cost})
		}
		if a, b := tell(g, 3, 5), tell(bare, 3, 5); !sameTold(a, b) {
			t.Fatalf("with capacities %v, without %v", a, b)
		}
	}
}

// spoil writes over all that was told, and says whether two of its lists share memory.
func (x told) spoil() (shared bool) {
	for k, list := range x.lists {
		trial.Spoil(list, -7)
		for _, other := range x.lists[k+1:] {
			shared = shared || slices.Contains(other, -7)
		}
	}
	for k, list := range x.costs {
		trial.Spoil(list, math.MinInt64)
		for _, other := range x.costs[k+1:] {
			shared = shared || slices.Contains(other, math.MinInt64)
		}
	}
	return shared
}

// TestP2: graphs aren't changed, the same call answers the same, and no answer shares memory with anything.
func TestP2(t *testing.T) {
	row := trial.NewScatter(46)
	for round := range 400 {
		plain := scattered(row, 8, row.Below(16), []int{0, -2, -9}[round%3], 20, false)
		edges, same := trial.Watched(plain.Edges, api.Edge{From: -7})
		g := api.Graph{Nodes: 8, Edges: edges}
		first, second, third := tell(g, 0, 5), tell(g, 0, 5), tell(g, 0, 5)
		if first.spoil() {
			t.Fatal("two lists of answers share memory")
		}
		if !sameTold(second, third) || !sameTold(second, tell(g, 0, 5)) || !same() {
			t.Fatal("an answer shares memory, or a graph is changed")
		}
	}
}
