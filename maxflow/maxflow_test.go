package maxflow_test

import (
	"math"
	"slices"
	"testing"

	"compass/api"
	"compass/maxflow"
	"compass/proof"
	"compass/trial"
)

var kinds = []int{maxflow.Dinic, maxflow.Trees, maxflow.Push}

// outside: numbers that none of n nodes have.
func outside(n int) []int { return []int{-1, n, n + 1, math.MinInt, math.MaxInt} }

// notKinds: numbers of no kind.
func notKinds() []int { return []int{0, 4, -1, 1 << 32, 1<<32 + 1, math.MinInt, math.MaxInt} }

// edge: From, To and Cap.
type edge [3]int

func graphOf(nodes int, edges ...edge) api.Graph {
	g := api.Graph{Nodes: nodes}
	for _, e := range edges {
		g.Edges = append(g.Edges, api.Edge{From: e[0], To: e[1], Cap: int64(e[2])})
	}
	return g
}

// example: the fifth example of the whole.
func example() api.Graph {
	return graphOf(4, edge{0, 1, 2}, edge{1, 3, 9}, edge{0, 2, 3}, edge{2, 3, 2})
}

func sideOf(nodes int, on ...int) []bool {
	side := make([]bool, nodes)
	for _, v := range on {
		side[v] = true
	}
	return side
}

// netOut: how much more goes out of a node than comes into it.
func netOut(g api.Graph, on []int64, v int) int64 {
	var sum int64
	for i, e := range g.Edges {
		if e.From == v {
			sum += on[i]
		}
		if e.To == v {
			sum -= on[i]
		}
	}
	return sum
}

// cutOf: the capacities of the edges from a side to off it.
func cutOf(g api.Graph, side []bool) int64 {
	var sum int64
	for _, e := range g.Edges {
		if side[e.From] && !side[e.To] {
			sum += e.Cap
		}
	}
	return sum
}

// cutWords: the least cut, found by trying all sides, and the nodes that are on each side that cuts as little.
func cutWords(g api.Graph, s, t int) (least int64, side []bool) {
	least = math.MaxInt64
	for other := range trial.Sides(g.Nodes) {
		if !other[s] || other[t] {
			continue
		}
		switch cut := cutOf(g, other); {
		case cut < least:
			least, side = cut, other
		case cut == least:
			for v := range side {
				side[v] = side[v] && other[v]
			}
		}
	}
	return least, side
}

// sideWords: the document's words of Side, done as they stand.
func sideWords(g api.Graph, f proof.Flow) []bool {
	side := sideOf(g.Nodes, f.Source)
	for changed := true; changed; {
		changed = false
		for i, e := range g.Edges {
			if side[e.From] && !side[e.To] && f.On[i] < e.Cap {
				side[e.To], changed = true, true
			}
			if side[e.To] && !side[e.From] && f.On[i] > 0 {
				side[e.From], changed = true, true
			}
		}
	}
	return side
}

// wantFlow: amounts that fit, go on at each node but the two, and make the value; the side that the document's words tell; and all of it proved.
func wantFlow(t *testing.T, g api.Graph, s, sink int, f proof.Flow, value int64) {
	t.Helper()
	if f.Source != s || f.Sink != sink || len(f.On) != len(g.Edges) || len(f.Side) != g.Nodes {
		t.Fatalf("%v: from %d to %d: %v", g, s, sink, f)
	}
	for i, e := range g.Edges {
		if f.On[i] < 0 || f.On[i] > e.Cap {
			t.Fatalf("%v: %d on edge %d", g, f.On[i], i)
		}
	}
	for v := range g.Nodes {
		want := map[int]int64{s: value, sink: -value}[v]
		if netOut(g, f.On, v) != want {
			t.Fatalf("%v: from %d to %d: %v: %d more go out of %d than come in", g, s, sink, f.On, netOut(g, f.On, v), v)
		}
	}
	if !slices.Equal(f.Side, sideWords(g, f)) {
		t.Fatalf("%v: from %d to %d: %v: the side is %v", g, s, sink, f.On, f.Side)
	}
	if proved, code := proof.Max(g, f); proved != value || code != api.OK {
		t.Fatalf("%v: from %d to %d: %v, %d isn't proved: %d, %v", g, s, sink, f, value, proved, code)
	}
}

// holdKinds: all kinds answer a flow that is right, of one value and one side, which are answered here.
func holdKinds(t *testing.T, g api.Graph, s, sink int) (value int64, side []bool) {
	t.Helper()
	for _, kind := range kinds {
		f, v, code := maxflow.Solve(g, s, sink, kind)
		if code != api.OK {
			t.Fatalf("%v: from %d to %d, kind %d: %v", g, s, sink, kind, code)
		}
		wantFlow(t, g, s, sink, f, v)
		if kind != kinds[0] && (v != value || !slices.Equal(f.Side, side)) {
			t.Fatalf("%v: from %d to %d, kind %d: %d, %v; another kind answers %d, %v", g, s, sink, kind, v, f.Side, value, side)
		}
		value, side = v, f.Side
	}
	return value, side
}

// holdWords: likewise, the value and the side that trying all sides tells.
func holdWords(t *testing.T, g api.Graph, s, sink int) {
	t.Helper()
	value, side := holdKinds(t, g, s, sink)
	if want, wantSide := cutWords(g, s, sink); value != want || !slices.Equal(side, wantSide) {
		t.Fatalf("%v: from %d to %d: %d, %v; it should be %d, %v", g, s, sink, value, side, want, wantSide)
	}
}

func TestP13TheChaptersExamples(t *testing.T) {
	value, side := holdKinds(t, example(), 0, 3)
	if value != 4 || !slices.Equal(side, sideOf(4, 0, 2)) {
		t.Errorf("%d, %v", value, side)
	}
	if maxflow.Dinic != 1 || maxflow.Trees != 2 || maxflow.Push != 3 {
		t.Error("the kinds' numbers aren't the document's")
	}
}

func TestP13_1Solve(t *testing.T) {
	const most = api.MaxLabel
	for _, c := range []struct {
		name    string
		g       api.Graph
		s, sink int
		value   int64
		side    []bool
	}{
		{"no edges", graphOf(3), 0, 2, 0, sideOf(3, 0)},
		{"an edge of capacity 0", graphOf(2, edge{0, 1, 0}), 0, 1, 0, sideOf(2, 0)},
		{"the greatest capacity", graphOf(2, edge{0, 1, most}), 0, 1, most, sideOf(2, 0)},
		{"against the edge", graphOf(2, edge{0, 1, most}), 1, 0, 0, sideOf(2, 1)},
		{"several edges", graphOf(2, edge{0, 1, 2}, edge{1, 0, 5}, edge{0, 1, 3}), 0, 1, 5, sideOf(2, 0)},
		{"loops", graphOf(2, edge{0, 0, 7}, edge{0, 1, 4}, edge{1, 1, 7}), 0, 1, 4, sideOf(2, 0)},
		{"a chain that is full at its end", graphOf(4, edge{0, 1, 5}, edge{1, 2, 4}, edge{2, 3, 3}), 0, 3, 3, sideOf(4, 0, 1, 2)},
		{"of several least cuts the one nearest to the source", graphOf(4, edge{0, 1, 3}, edge{1, 2, 3}, edge{2, 3, 3}), 0, 3, 3, sideOf(4, 0)},
		{"a dead end", graphOf(4, edge{0, 1, 9}, edge{1, 2, 9}, edge{0, 3, 1}), 0, 3, 1, sideOf(4, 0, 1, 2)},
		{"edges into the source, out of the sink", graphOf(3, edge{1, 0, 9}, edge{0, 1, 4}, edge{2, 1, 9}, edge{1, 2, 3}), 0, 2, 3, sideOf(3, 0, 1)},
		{"what was sent must go another way", graphOf(4, edge{0, 1, 1}, edge{0, 2, 1}, edge{1, 2, 1}, edge{1, 3, 1}, edge{2, 3, 1}), 0, 3, 2, sideOf(4, 0)},
		{"back along an edge with something on it", graphOf(6, edge{0, 1, 1}, edge{1, 2, 1}, edge{2, 5, 1}, edge{0, 3, 1}, edge{3, 2, 1}, edge{1, 4, 1}, edge{4, 5, 1}), 0, 5, 2, sideOf(6, 0)},
		{"the side goes back too", graphOf(4, edge{1, 2, 2}, edge{2, 3, 2}, edge{0, 1, 2}, edge{0, 2, 1}), 0, 3, 2, sideOf(4, 0, 1, 2)},
		{"a circle beside the way", graphOf(5, edge{0, 4, 2}, edge{1, 2, 3}, edge{2, 3, 3}, edge{3, 1, 3}), 0, 4, 2, sideOf(5, 0)},
	} {
		value, side := holdKinds(t, c.g, c.s, c.sink)
		if value != c.value || !slices.Equal(side, c.side) {
			t.Errorf("%s: %d, %v; it should be %d, %v", c.name, value, side, c.value, c.side)
		}
		holdWords(t, c.g, c.s, c.sink)
	}
}

// TestP13_1AllSmallGraphs: each graph of so many nodes and edges, with each row of a few capacities.
func TestP13_1AllSmallGraphs(t *testing.T) {
	for _, c := range []struct {
		nodes, edges int
		least, most  int64
	}{{2, 3, 0, 2}, {3, 3, 0, 2}, {3, 4, 1, 2}, {4, 3, 1, 2}} {
		for g := range trial.AllGraphs(c.nodes, c.edges) {
			for caps := range trial.Lists(c.edges, c.least, c.most) {
				for i := range caps {
					g.Edges[i].Cap = caps[i]
				}
				holdWords(t, g, 0, c.nodes-1)
			}
		}
	}
}

func TestP13_1ScatteredGraphs(t *testing.T) {
	row := trial.NewScatter(131)
	for round := range 1500 {
		nodes := row.Between(2, 8)
		g := row.Small(nodes, row.Below(4*nodes), []int{1, 4, api.MaxLabel}[round%3], -5, 5)
		s := row.Below(nodes)
		sink := (s + row.Between(1, nodes-1)) % nodes
		holdWords(t, g, s, sink)
	}
}

// TestP13_1CostsDontMatter: nor do they change the flow.
func TestP13_1CostsDontMatter(t *testing.T) {
	row := trial.NewScatter(132)
	for range 200 {
		g := row.Small(6, 14, 5, 0, 0)
		dear := api.Graph{Nodes: 6, Edges: slices.Clone(g.Edges)}
		for i := range dear.Edges {
			dear.Edges[i].Cost = int64(row.Between(-api.MaxLabel, api.MaxLabel))
		}
		for _, kind := range kinds {
			f, v, _ := maxflow.Solve(g, 0, 5, kind)
			other, w, _ := maxflow.Solve(dear, 0, 5, kind)
			if v != w || !slices.Equal(f.On, other.On) {
				t.Fatalf("%v: kind %d: %v; with costs %v", g, kind, f, other)
			}
		}
	}
}

// wantNone: an error, and nothing beside it.
func wantNone(t *testing.T, name string, f proof.Flow, value int64, code, want api.Errno) {
	t.Helper()
	if f.Source != 0 || f.Sink != 0 || len(f.On) != 0 || len(f.Side) != 0 || value != 0 || code != want {
		t.Errorf("%s: %v, %d, %v; it should be %v", name, f, value, code, want)
	}
}

// TestP13_1Refuses: in the order of the errors.
func TestP13_1Refuses(t *testing.T) {
	for _, g := range []api.Graph{{}, {Nodes: 1}, example()} {
		for _, kind := range append(notKinds(), kinds...) {
			for _, wrong := range outside(g.Nodes) {
				for _, other := range append(outside(g.Nodes), 0, g.Nodes-1) {
					f, v, code := maxflow.Solve(g, wrong, other, kind)
					wantNone(t, "a wrong source", f, v, code, api.ErrNode)
					f, v, code = maxflow.Solve(g, other, wrong, kind)
					wantNone(t, "a wrong sink", f, v, code, api.ErrNode)
				}
			}
			for s := range g.Nodes {
				f, v, code := maxflow.Solve(g, s, s, kind)
				wantNone(t, "from a node to itself", f, v, code, api.ErrSame)
			}
		}
	}
	for _, kind := range notKinds() {
		f, v, code := maxflow.Solve(example(), 1, 3, kind)
		wantNone(t, "a wrong kind", f, v, code, api.ErrKind)
	}
}

// TestP13_1WrongGraphsAreRefused: ahead of any other error.
func TestP13_1WrongGraphsAreRefused(t *testing.T) {
	for _, c := range trial.WrongGraphs() {
		for _, kind := range append(notKinds(), kinds...) {
			for _, pair := range [][2]int{{0, 1}, {0, 0}, {-1, 0}, {0, math.MaxInt}, {math.MinInt, math.MinInt}} {
				f, v, code := maxflow.Solve(c.Graph, pair[0], pair[1], kind)
				wantNone(t, "a wrong graph", f, v, code, c.Fault.Code)
			}
		}
	}
}

// grid: nodes in a square, each joined to those beside it, both ways.
func grid(row *trial.Scatter, side int) api.Graph {
	g := api.Graph{Nodes: side * side}
	join := func(u, v int) {
		for _, ends := range [][2]int{{u, v}, {v, u}} {
			g.Edges = append(g.Edges, api.Edge{From: ends[0], To: ends[1], Cap: int64(row.Between(0, api.MaxLabel))})
		}
	}
	for v := range g.Nodes {
		if v%side+1 < side {
			join(v, v+1)
		}
		if v+side < g.Nodes {
			join(v, v+side)
		}
	}
	return g
}

// pairs: units from the source by nodes on the left and nodes on the right to the sink.
func pairs(row *trial.Scatter) api.Graph {
	const half = (api.MaxNodes - 2) / 2
	g := api.Graph{Nodes: api.MaxNodes}
	for i := range half {
		left, right := 1+i, 1+half+i
		g.Edges = append(g.Edges, api.Edge{From: 0, To: left, Cap: 1}, api.Edge{From: right, To: api.MaxNodes - 1, Cap: 1})
		for range 6 {
			g.Edges = append(g.Edges, api.Edge{From: left, To: 1 + half + row.Below(half), Cap: 1})
		}
	}
	return g
}

// spindle: a long chain, then many ways side by side that fill one after the other, then a long chain.
func spindle() api.Graph {
	const wide, long = 45, 450
	g := api.Graph{Nodes: 2*long + 2*wide + 2}
	chain := func(from, to int) {
		for v := from; v < to; v++ {
			g.Edges = append(g.Edges, api.Edge{From: v, To: v + 1, Cap: api.MaxLabel})
		}
	}
	chain(0, long)
	after := long + 2*wide + 1
	for i := range wide {
		left, right := long+1+i, long+1+wide+i
		g.Edges = append(g.Edges, api.Edge{From: long, To: left, Cap: api.MaxLabel}, api.Edge{From: right, To: after, Cap: api.MaxLabel})
		for k := range wide {
			g.Edges = append(g.Edges, api.Edge{From: left, To: long + 1 + wide + k, Cap: 1})
		}
	}
	chain(after, g.Nodes-1)
	return g
}

// narrow: a long chain with edges back, whose last edge alone is narrow: all else that was sent on must come back.
func narrow() api.Graph {
	const last = api.MaxNodes - 1
	g := api.Graph{Nodes: api.MaxNodes}
	for v := range last {
		e := api.Edge{From: v, To: v + 1, Cap: api.MaxLabel - int64(v)}
		if v+1 == last {
			e.Cap = 1
		}
		g.Edges = append(g.Edges, e, api.Edge{From: v + 1, To: v, Cap: api.MaxLabel}, api.Edge{From: v, To: min(v+2, last-1), Cap: 3})
	}
	return g
}

// TestP13_1FullGraphs: as many nodes and edges as there may be, and shapes at which one way or another takes long.
func TestP13_1FullGraphs(t *testing.T) {
	row := trial.NewScatter(133)
	whole := api.Graph{Nodes: 2}
	for range api.MaxEdges {
		whole.Edges = append(whole.Edges, api.Edge{From: 0, To: 1, Cap: api.MaxLabel})
	}
	if value, _ := holdKinds(t, whole, 0, 1); value != api.MaxEdges*api.MaxLabel {
		t.Errorf("all edges between two nodes: %d", value)
	}
	if value, _ := holdKinds(t, spindle(), 0, spindle().Nodes-1); value != 45*45 {
		t.Errorf("a spindle: %d", value)
	}
	if value, side := holdKinds(t, narrow(), 0, api.MaxNodes-1); value != 1 || slices.Index(side, false) != api.MaxNodes-1 {
		t.Errorf("a chain that is narrow at its end: %d, %v", value, side)
	}
	for _, g := range []api.Graph{
		row.Graph(api.MaxNodes, api.MaxEdges), row.Graph(64, api.MaxEdges), row.Graph(api.MaxNodes, api.MaxNodes),
		grid(row, 32), pairs(row), row.Small(300, api.MaxEdges, 2, 0, 0),
	} {
		holdKinds(t, g, 0, g.Nodes-1)
		holdKinds(t, g, g.Nodes/2, 1)
	}
}

// TestP2: graphs aren't changed, the same call answers the same, and no answer shares memory with anything.
func TestP2(t *testing.T) {
	row := trial.NewScatter(134)
	for range 300 {
		plain := row.Small(7, row.Below(20), 6, -5, 5)
		edges, same := trial.Watched(plain.Edges, api.Edge{From: -7})
		g := api.Graph{Nodes: 7, Edges: edges}
		for _, kind := range kinds {
			first, _, _ := maxflow.Solve(g, 0, 6, kind)
			second, value, _ := maxflow.Solve(g, 0, 6, kind)
			on, side := slices.Clone(second.On), slices.Clone(second.Side)
			trial.Spoil(first.On, -7)
			trial.Spoil(first.Side, true)
			third, again, _ := maxflow.Solve(g, 0, 6, kind)
			if !slices.Equal(second.On, on) || !slices.Equal(second.Side, side) || !slices.Equal(third.On, on) || !slices.Equal(third.Side, side) || again != value || !same() {
				t.Fatal("an answer shares memory, or a graph is changed")
			}
		}
	}
}
