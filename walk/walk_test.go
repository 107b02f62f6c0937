package walk_test

import (
	"math"
	"slices"
	"testing"

	"compass/api"
	"compass/trial"
	"compass/walk"
)

// ends: a graph of edges with labels of 0.
func ends(nodes int, pairs ...[2]int) api.Graph {
	g := api.Graph{Nodes: nodes}
	for _, p := range pairs {
		g.Edges = append(g.Edges, api.Edge{From: p[0], To: p[1]})
	}
	return g
}

// ring: all nodes one behind the other; closed, if the last one leads to the first.
func ring(nodes int, closed bool) api.Graph {
	g := api.Graph{Nodes: nodes}
	for v := range nodes - 1 {
		g.Edges = append(g.Edges, api.Edge{From: v, To: v + 1})
	}
	if closed {
		g.Edges = append(g.Edges, api.Edge{From: nodes - 1, To: 0})
	}
	return g
}

// eachGraph: all small graphs, and scattered ones of all densities.
func eachGraph(look func(api.Graph)) {
	for nodes := range 4 {
		for edges := range 5 {
			for g := range trial.AllGraphs(nodes, edges) {
				look(g)
			}
		}
	}
	row := trial.NewScatter(4)
	for range 1500 {
		nodes := row.Between(1, 14)
		look(row.Graph(nodes, row.Below(3*nodes)))
		look(onward(row, nodes, row.Below(3*nodes)))
	}
}

// onward: a scattered graph without a circle, whose nodes' numbers tell nothing of its order.
func onward(row *trial.Scatter, nodes, edges int) api.Graph {
	place := make([]int, nodes)
	for v := range place {
		u := row.Below(v + 1)
		place[v], place[u] = place[u], v
	}
	g := row.Graph(nodes, edges)
	g.Edges = slices.DeleteFunc(g.Edges, func(e api.Edge) bool { return place[e.From] >= place[e.To] })
	return g
}

// steps: the least number of edges from each node to each, -1 where there is no way: by nothing but sums of two ways.
func steps(g api.Graph) [][]int {
	d := make([][]int, g.Nodes)
	for v := range d {
		d[v] = slices.Repeat([]int{-1}, g.Nodes)
	}
	for _, e := range g.Edges {
		d[e.From][e.To] = 1
	}
	for v := range d {
		d[v][v] = 0
	}
	for over := range d {
		for v := range d {
			for u := range d {
				sum := d[v][over] + d[over][u]
				if d[v][over] >= 0 && d[over][u] >= 0 && (d[v][u] < 0 || sum < d[v][u]) {
					d[v][u] = sum
				}
			}
		}
	}
	return d
}

// partsBy: the numbers of the parts, in the order of their least nodes, if together says of two nodes whether they are in one.
func partsBy(nodes int, together func(v, u int) bool) []int {
	var part []int
	count := 0
	for v := range nodes {
		number := count
		for u := range v {
			if together(u, v) {
				number = part[u]
				break
			}
		}
		if number == count {
			count++
		}
		part = append(part, number)
	}
	return part
}

func TestP4_1Levels(t *testing.T) {
	eachGraph(func(g api.Graph) {
		for s, want := range steps(g) {
			if got, code := walk.Levels(g, s); !slices.Equal(got, want) || code != api.OK {
				t.Fatalf("Levels(%v, %d): %v, %v; they should be %v", g, s, got, code, want)
			}
		}
	})
}

func TestP4_1LevelsEdges(t *testing.T) {
	got, code := walk.Levels(ends(3, [2]int{0, 1}, [2]int{1, 2}), 0)
	if !slices.Equal(got, []int{0, 1, 2}) || code != api.OK {
		t.Errorf("the document's example: %v, %v", got, code)
	}
	got, code = walk.Levels(ends(3, [2]int{0, 1}, [2]int{1, 2}), 1)
	if !slices.Equal(got, []int{-1, 0, 1}) || code != api.OK {
		t.Errorf("from the middle: %v, %v", got, code)
	}
	far, _ := walk.Levels(ring(api.MaxNodes, true), 1)
	if len(far) != api.MaxNodes || far[0] != api.MaxNodes-1 || far[1] != 0 {
		t.Error("once round all nodes")
	}
	for _, g := range []api.Graph{{}, {Nodes: 1}, ends(3, [2]int{0, 1})} {
		for _, s := range []int{-1, g.Nodes, g.Nodes + 1, math.MinInt, math.MaxInt} {
			if got, code := walk.Levels(g, s); len(got) != 0 || code != api.ErrNode {
				t.Errorf("Levels(%v, %d): %v, %v", g, s, got, code)
			}
		}
	}
}

// visited: the document's words, done as they stand.
func visited(g api.Graph) (pre, post []int) {
	pre, post = slices.Repeat([]int{-1}, g.Nodes), make([]int, g.Nodes)
	clock := 0
	var visit func(v int)
	visit = func(v int) {
		pre[v] = clock
		clock++
		for _, e := range g.Edges {
			if e.From == v && pre[e.To] < 0 {
				visit(e.To)
			}
		}
		post[v] = clock
		clock++
	}
	for v := range g.Nodes {
		if pre[v] < 0 {
			visit(v)
		}
	}
	return pre, post
}

func sameVisit(t *testing.T, g api.Graph) {
	t.Helper()
	wantPre, wantPost := visited(g)
	pre, post, code := walk.Visit(g)
	if !slices.Equal(pre, wantPre) || !slices.Equal(post, wantPost) || code != api.OK {
		t.Fatalf("Visit(%v): %v, %v, %v; it should be %v, %v", g, pre, post, code, wantPre, wantPost)
	}
}

func TestP4_2Visit(t *testing.T) {
	eachGraph(func(g api.Graph) { sameVisit(t, g) })
}

func TestP4_2VisitEdges(t *testing.T) {
	pre, post, code := walk.Visit(ends(3, [2]int{0, 1}, [2]int{1, 2}))
	if !slices.Equal(pre, []int{0, 1, 2}) || !slices.Equal(post, []int{5, 4, 3}) || code != api.OK {
		t.Errorf("the document's example: %v, %v, %v", pre, post, code)
	}
	// Edges are gone along in the order of their numbers, not of where they lead; 1 is seen from 0 and come to from 2.
	pre, post, _ = walk.Visit(ends(4, [2]int{0, 2}, [2]int{0, 1}, [2]int{2, 1}, [2]int{3, 0}))
	if !slices.Equal(pre, []int{0, 2, 1, 6}) || !slices.Equal(post, []int{5, 3, 4, 7}) {
		t.Errorf("edges out of order: %v, %v", pre, post)
	}
	sameVisit(t, ring(api.MaxNodes, true))
	sameVisit(t, trial.NewScatter(5).Graph(api.MaxNodes, api.MaxEdges))
	sameVisit(t, api.Graph{Nodes: 1, Edges: make([]api.Edge, api.MaxEdges)})
}

// ordered: the document's words, done as they stand; false, if at last no node can come.
func ordered(g api.Graph) (order []int, all bool) {
	for len(order) < g.Nodes {
		least := -1
		for v := range g.Nodes {
			held := slices.Contains(order, v) || slices.ContainsFunc(g.Edges, func(e api.Edge) bool {
				return e.To == v && !slices.Contains(order, e.From)
			})
			if !held {
				least = v
				break
			}
		}
		if least < 0 {
			return nil, false
		}
		order = append(order, least)
	}
	return order, true
}

// isCircle: one edge or more, each from where the one ahead of it leads to, no node twice.
func isCircle(g api.Graph, circle []int) bool {
	seen := make([]bool, g.Nodes)
	for k, i := range circle {
		if i < 0 || i >= len(g.Edges) || seen[g.Edges[i].From] {
			return false
		}
		seen[g.Edges[i].From] = true
		if g.Edges[i].To != g.Edges[circle[(k+1)%len(circle)]].From {
			return false
		}
	}
	return len(circle) > 0
}

func sameOrder(t *testing.T, g api.Graph) {
	t.Helper()
	want, all := ordered(g)
	order, circle, code := walk.Order(g)
	if all && (!slices.Equal(order, want) || len(circle) != 0 || code != api.OK) {
		t.Fatalf("Order(%v): %v, %v, %v; it should be %v", g, order, circle, code, want)
	}
	if !all && (len(order) != 0 || !isCircle(g, circle) || code != api.ErrCycle) {
		t.Fatalf("Order(%v): %v, %v, %v; it should be a circle", g, order, circle, code)
	}
}

func TestP4_3Order(t *testing.T) {
	eachGraph(func(g api.Graph) { sameOrder(t, g) })
}

func TestP4_3OrderEdges(t *testing.T) {
	order, circle, code := walk.Order(ends(4, [2]int{3, 1}, [2]int{2, 0}, [2]int{1, 0}))
	if !slices.Equal(order, []int{2, 3, 1, 0}) || len(circle) != 0 || code != api.OK {
		t.Errorf("the least that may come comes first: %v, %v, %v", order, circle, code)
	}
	order, circle, code = walk.Order(ends(2, [2]int{0, 1}, [2]int{1, 1}))
	if len(order) != 0 || !slices.Equal(circle, []int{1}) || code != api.ErrCycle {
		t.Errorf("a loop: %v, %v, %v", order, circle, code)
	}
	// The circle of 2 and 3 is behind 0 and ahead of 1 and 4, which can't come either.
	order, circle, code = walk.Order(ends(5, [2]int{0, 2}, [2]int{2, 3}, [2]int{3, 2}, [2]int{3, 1}, [2]int{1, 4}))
	slices.Sort(circle)
	if len(order) != 0 || !slices.Equal(circle, []int{1, 2}) || code != api.ErrCycle {
		t.Errorf("a circle with nodes behind it: %v, %v, %v", order, circle, code)
	}
	order, circle, code = walk.Order(ring(api.MaxNodes, true))
	if len(order) != 0 || len(circle) != api.MaxNodes || !isCircle(ring(api.MaxNodes, true), circle) || code != api.ErrCycle {
		t.Errorf("a circle of all nodes: %v, %v, %v", order, circle, code)
	}
	order, circle, code = walk.Order(api.Graph{})
	if len(order) != 0 || len(circle) != 0 || code != api.OK {
		t.Errorf("of no nodes: %v, %v, %v", order, circle, code)
	}
	down := api.Graph{Nodes: api.MaxNodes}
	for v := range api.MaxNodes - 1 {
		down.Edges = append(down.Edges, api.Edge{From: v + 1, To: v})
	}
	order, _, code = walk.Order(down)
	slices.Reverse(order)
	if len(order) != api.MaxNodes || !slices.IsSorted(order) || order[0] != 0 || code != api.OK {
		t.Errorf("all nodes from the last to the first: %v", code)
	}
}

func TestP4_4Parts(t *testing.T) {
	eachGraph(func(g api.Graph) {
		either := api.Graph{Nodes: g.Nodes}
		for _, e := range g.Edges {
			either.Edges = append(either.Edges, e, api.Edge{From: e.To, To: e.From})
		}
		d := steps(either)
		want := partsBy(g.Nodes, func(v, u int) bool { return d[v][u] >= 0 })
		if got, code := walk.Parts(g); !slices.Equal(got, want) || code != api.OK {
			t.Fatalf("Parts(%v): %v, %v; they should be %v", g, got, code, want)
		}
	})
}

func TestP4_4PartsEdges(t *testing.T) {
	for _, c := range []struct {
		g    api.Graph
		want []int
	}{
		{ends(3, [2]int{0, 1}, [2]int{1, 2}), []int{0, 0, 0}},
		{api.Graph{}, nil},
		{api.Graph{Nodes: 3}, []int{0, 1, 2}},
		{ends(5, [2]int{4, 0}, [2]int{3, 3}, [2]int{2, 1}), []int{0, 1, 1, 2, 0}},
		{ends(4, [2]int{1, 0}, [2]int{1, 3}, [2]int{2, 3}), []int{0, 0, 0, 0}},
		{ring(api.MaxNodes, false), make([]int, api.MaxNodes)},
		{api.Graph{Nodes: 2, Edges: make([]api.Edge, api.MaxEdges)}, []int{0, 1}},
	} {
		if got, code := walk.Parts(c.g); !slices.Equal(got, c.want) || code != api.OK {
			t.Errorf("Parts(%v): %v, %v; they should be %v", c.g, got, code, c.want)
		}
	}
}

func TestP4_5Strong(t *testing.T) {
	eachGraph(func(g api.Graph) {
		d := steps(g)
		want := partsBy(g.Nodes, func(v, u int) bool { return d[v][u] >= 0 && d[u][v] >= 0 })
		if got, code := walk.Strong(g); !slices.Equal(got, want) || code != api.OK {
			t.Fatalf("Strong(%v): %v, %v; they should be %v", g, got, code, want)
		}
	})
}

func TestP4_5StrongEdges(t *testing.T) {
	apart := make([]int, api.MaxNodes)
	for v := range apart {
		apart[v] = v
	}
	for _, c := range []struct {
		g    api.Graph
		want []int
	}{
		{ends(3, [2]int{0, 1}, [2]int{1, 2}), []int{0, 1, 2}},
		{api.Graph{}, nil},
		{ends(3, [2]int{2, 1}, [2]int{1, 2}, [2]int{1, 0}), []int{0, 1, 1}},
		{ends(5, [2]int{4, 1}, [2]int{1, 4}, [2]int{0, 2}, [2]int{2, 0}, [2]int{2, 1}, [2]int{3, 3}), []int{0, 1, 0, 2, 1}},
		{ring(api.MaxNodes, true), make([]int, api.MaxNodes)},
		{ring(api.MaxNodes, false), apart},
	} {
		if got, code := walk.Strong(c.g); !slices.Equal(got, c.want) || code != api.OK {
			t.Errorf("Strong(%v): %v, %v; they should be %v", c.g, got, code, c.want)
		}
	}
}

// told is what all calls answer of a graph.
type told struct {
	lists [][]int
	codes []api.Errno
}

func tell(g api.Graph, s int) told {
	levels, levelsCode := walk.Levels(g, s)
	pre, post, visitCode := walk.Visit(g)
	order, circle, orderCode := walk.Order(g)
	parts, partsCode := walk.Parts(g)
	strong, strongCode := walk.Strong(g)
	return told{
		[][]int{levels, pre, post, order, circle, parts, strong},
		[]api.Errno{levelsCode, visitCode, orderCode, partsCode, strongCode},
	}
}

func sameTold(a, b told) bool {
	return slices.Equal(a.codes, b.codes) && slices.EqualFunc(a.lists, b.lists, slices.Equal[[]int])
}

func TestP4WrongGraphsAreRefused(t *testing.T) {
	for _, c := range trial.WrongGraphs() {
		for _, s := range []int{0, -1} {
			got := tell(c.Graph, s)
			for _, code := range got.codes {
				if code != c.Fault.Code {
					t.Errorf("a graph with fault %v: %v", c.Fault, got.codes)
				}
			}
			for _, list := range got.lists {
				if len(list) != 0 {
					t.Errorf("a graph with fault %v: %v", c.Fault, got.lists)
				}
			}
		}
	}
}

func TestP4LabelsDontMatter(t *testing.T) {
	row := trial.NewScatter(6)
	for range 300 {
		g := row.Graph(9, row.Below(20))
		bare := api.Graph{Nodes: 9}
		for _, e := range g.Edges {
			bare.Edges = append(bare.Edges, api.Edge{From: e.From, To: e.To})
		}
		if a, b := tell(g, 3), tell(bare, 3); !sameTold(a, b) {
			t.Fatalf("with labels %v, without %v", a, b)
		}
	}
}

// TestP2: graphs aren't changed, and no answer shares memory with anything.
func TestP2(t *testing.T) {
	row := trial.NewScatter(7)
	for range 200 {
		plain := row.Graph(8, row.Below(16))
		edges, same := trial.Watched(plain.Edges, api.Edge{From: -7})
		g := api.Graph{Nodes: 8, Edges: edges}
		first, second, third := tell(g, 0), tell(g, 0), tell(g, 0)
		for k, list := range first.lists {
			trial.Spoil(list, -7)
			for _, other := range first.lists[k+1:] {
				if slices.Contains(other, -7) {
					t.Fatal("two lists of one answer share memory")
				}
			}
		}
		if !sameTold(second, third) || !sameTold(second, tell(g, 0)) || !same() {
			t.Fatal("an answer shares memory, or a graph is changed")
		}
	}
}
