package graph_test

import (
	"math"
	"slices"
	"testing"

	"compass/api"
	"compass/graph"
	"compass/trial"
)

var noEdge = api.Edge{From: -7, To: -7, Cap: -7, Cost: -7}

func equal(g, h api.Graph) bool { return g.Nodes == h.Nodes && slices.Equal(g.Edges, h.Edges) }

// square: four nodes with a loop at 1, two edges from 0 to 1, and one back.
func square() api.Graph {
	return api.Graph{Nodes: 4, Edges: []api.Edge{
		{From: 0, To: 1, Cap: 1, Cost: 10}, {From: 1, To: 2, Cap: 2, Cost: 20}, {From: 1, To: 1, Cap: 3, Cost: 30},
		{From: 3, To: 0, Cap: 4, Cost: 40}, {From: 0, To: 1, Cap: 5, Cost: 50}, {From: 1, To: 0, Cap: 6, Cost: 60},
		{From: 2, To: 3, Cap: 7, Cost: 70},
	}}
}

// full: as many nodes and edges as there may be.
func full() api.Graph {
	return trial.NewScatter(1).Graph(api.MaxNodes, api.MaxEdges)
}

func netOf(t *testing.T, g api.Graph) *graph.Net {
	t.Helper()
	n, fault := graph.From(g)
	if n == nil || fault != (api.Fault{}) {
		t.Fatalf("From: %v, %v", n, fault)
	}
	return n
}

// holds: all that can be asked of a net is as the graph says.
func holds(t *testing.T, n *graph.Net, want api.Graph) {
	t.Helper()
	if n.Nodes() != want.Nodes || n.Edges() != len(want.Edges) || !equal(n.Plain(), want) {
		t.Fatalf("the net has %d nodes, %d edges, and is %v; it should be %v", n.Nodes(), n.Edges(), n.Plain(), want)
	}
	for i, e := range want.Edges {
		if got, code := n.Edge(i); got != e || code != api.OK {
			t.Fatalf("Edge(%d): %v, %v; it should be %v", i, got, code, e)
		}
	}
	for v := range want.Nodes {
		var out, in []int
		for i, e := range want.Edges {
			if e.From == v {
				out = append(out, i)
			}
			if e.To == v {
				in = append(in, i)
			}
		}
		if got, code := n.Out(v); !slices.Equal(got, out) || code != api.OK {
			t.Fatalf("Out(%d): %v, %v; it should be %v", v, got, code, out)
		}
		if got, code := n.In(v); !slices.Equal(got, in) || code != api.OK {
			t.Fatalf("In(%d): %v, %v; it should be %v", v, got, code, in)
		}
	}
}

func rightGraphs() []api.Graph {
	return []api.Graph{
		{},
		{Nodes: 1},
		{Nodes: api.MaxNodes},
		{Nodes: 1, Edges: make([]api.Edge, api.MaxEdges)},
		{Nodes: 2, Edges: []api.Edge{{From: 1, To: 1, Cap: api.MaxLabel, Cost: api.MaxLabel}, {Cost: -api.MaxLabel}}},
		{Nodes: api.MaxNodes, Edges: []api.Edge{{From: api.MaxNodes - 1, To: 0}, {To: api.MaxNodes - 1}}},
		square(),
		full(),
	}
}

func TestP3_1CheckTakesRightGraphs(t *testing.T) {
	for i, g := range rightGraphs() {
		if fault := graph.Check(g); fault != (api.Fault{}) {
			t.Errorf("right graph %d: %v", i, fault)
		}
	}
}

func TestP3_1CheckFindsTheFirstFault(t *testing.T) {
	for _, c := range trial.WrongGraphs() {
		if fault := graph.Check(c.Graph); fault != c.Fault {
			t.Errorf("Check(%d nodes, %d edges): %v; it should be %v", c.Graph.Nodes, len(c.Graph.Edges), fault, c.Fault)
		}
	}
	g := full()
	g.Edges[api.MaxEdges-1].To = api.MaxNodes
	if fault := graph.Check(g); fault != (api.Fault{Code: api.ErrNode, At: api.MaxEdges - 1}) {
		t.Errorf("a fault at the last edge: %v", fault)
	}
}

func TestP3_2Reverse(t *testing.T) {
	got := graph.Reverse(api.Graph{Nodes: 3, Edges: []api.Edge{{From: 0, To: 1, Cap: 2, Cost: 3}, {From: 2, To: 2, Cap: 4}}})
	want := api.Graph{Nodes: 3, Edges: []api.Edge{{From: 1, To: 0, Cap: 2, Cost: 3}, {From: 2, To: 2, Cap: 4}}}
	if !equal(got, want) {
		t.Errorf("Reverse: %v", got)
	}
	all := rightGraphs()
	for _, c := range trial.WrongGraphs() {
		all = append(all, c.Graph)
	}
	for _, g := range all {
		got := graph.Reverse(g)
		if got.Nodes != g.Nodes || len(got.Edges) != len(g.Edges) {
			t.Fatalf("Reverse has %d nodes and %d edges", got.Nodes, len(got.Edges))
		}
		for i, e := range g.Edges {
			if got.Edges[i] != (api.Edge{From: e.To, To: e.From, Cap: e.Cap, Cost: e.Cost}) {
				t.Fatalf("edge %v is turned about to %v", e, got.Edges[i])
			}
		}
	}
}

func TestP3_3From(t *testing.T) {
	for _, g := range rightGraphs() {
		n := netOf(t, g)
		if n.Nodes() != g.Nodes || n.Edges() != len(g.Edges) || !equal(n.Plain(), g) {
			t.Errorf("the net of %d nodes and %d edges isn't its graph", g.Nodes, len(g.Edges))
		}
	}
	for _, c := range trial.WrongGraphs() {
		if n, fault := graph.From(c.Graph); n != nil || fault != c.Fault {
			t.Errorf("From of a wrong graph: %v, %v; the fault should be %v", n, fault, c.Fault)
		}
	}
}

func TestP3_3ForksGoOnByThemselves(t *testing.T) {
	changes := []func(*graph.Net){
		func(n *graph.Net) { n.AddNode() },
		func(n *graph.Net) { n.AddEdge(api.Edge{From: 3, To: 3, Cap: 9}) },
		func(n *graph.Net) { n.SetEdge(0, api.Edge{From: 2, To: 2, Cap: 8}) },
		func(n *graph.Net) { n.CutEdge(0) },
		func(n *graph.Net) { n.CutNode(0) },
	}
	for i, change := range changes {
		first := netOf(t, square())
		second := first.Fork()
		third := second.Fork()
		holds(t, second, square())
		change(second)
		holds(t, first, square())
		holds(t, third, square())
		change(first)
		if !equal(first.Plain(), second.Plain()) || equal(first.Plain(), square()) {
			t.Errorf("change %d: %v and %v", i, first.Plain(), second.Plain())
		}
	}
}

func TestP3_3ForksDontShareSpareRoom(t *testing.T) {
	first := netOf(t, square())
	first.CutEdge(6)
	second := first.Fork()
	first.AddEdge(api.Edge{From: 1, To: 1, Cap: 1})
	second.AddEdge(api.Edge{From: 2, To: 2, Cap: 2})
	a, _ := first.Edge(6)
	b, _ := second.Edge(6)
	if a.From != 1 || b.From != 2 {
		t.Errorf("edges added after a fork: %v and %v", a, b)
	}
}

func TestP3_4AddNode(t *testing.T) {
	n := netOf(t, api.Graph{})
	for want := range api.MaxNodes {
		if v, code := n.AddNode(); v != want || code != api.OK || n.Nodes() != want+1 {
			t.Fatalf("AddNode: %d, %v, then %d nodes; it should be %d", v, code, n.Nodes(), want)
		}
	}
	if v, code := n.AddNode(); v != 0 || code != api.ErrSize || n.Nodes() != api.MaxNodes {
		t.Errorf("AddNode beyond the limit: %d, %v", v, code)
	}
	if code := n.CutNode(5); code != api.OK {
		t.Errorf("CutNode: %v", code)
	}
	if v, code := n.AddNode(); v != api.MaxNodes-1 || code != api.OK {
		t.Errorf("AddNode behind a cut: %d, %v", v, code)
	}
}

func TestP3_4AddEdge(t *testing.T) {
	n := netOf(t, api.Graph{Nodes: 2})
	for want := range api.MaxEdges {
		e := api.Edge{From: want % 2, To: want / 2 % 2, Cap: int64(want), Cost: -int64(want)}
		if i, code := n.AddEdge(e); i != want || code != api.OK || n.Edges() != want+1 {
			t.Fatalf("AddEdge: %d, %v, then %d edges; it should be %d", i, code, n.Edges(), want)
		}
		if got, _ := n.Edge(want); got != e {
			t.Fatalf("the new edge is %v", got)
		}
	}
	before := n.Plain()
	for _, e := range []api.Edge{{}, {From: 2}, {Cap: -1}} {
		if i, code := n.AddEdge(e); i != 0 || code != api.ErrSize {
			t.Errorf("AddEdge beyond the limit: %d, %v", i, code)
		}
	}
	if !equal(n.Plain(), before) {
		t.Error("a refused AddEdge has changed the net")
	}
}

func TestP3_4WrongEdgesAreRefused(t *testing.T) {
	n := netOf(t, square())
	for _, c := range []struct {
		e    api.Edge
		code api.Errno
	}{
		{api.Edge{From: 4}, api.ErrNode},
		{api.Edge{To: 4}, api.ErrNode},
		{api.Edge{From: -1}, api.ErrNode},
		{api.Edge{To: -1}, api.ErrNode},
		{api.Edge{From: math.MinInt, Cap: -1}, api.ErrNode},
		{api.Edge{To: math.MaxInt, Cost: math.MinInt64}, api.ErrNode},
		{api.Edge{Cap: -1}, api.ErrLabel},
		{api.Edge{Cap: api.MaxLabel + 1}, api.ErrLabel},
		{api.Edge{Cost: api.MaxLabel + 1}, api.ErrLabel},
		{api.Edge{Cost: -api.MaxLabel - 1}, api.ErrLabel},
		{api.Edge{Cap: math.MaxInt64, Cost: math.MinInt64}, api.ErrLabel},
	} {
		if i, code := n.AddEdge(c.e); i != 0 || code != c.code {
			t.Errorf("AddEdge(%v): %d, %v; the code should be %v", c.e, i, code, c.code)
		}
		if code := n.SetEdge(6, c.e); code != c.code {
			t.Errorf("SetEdge(6, %v): %v; it should be %v", c.e, code, c.code)
		}
	}
	holds(t, n, square())
}

// outside: numbers that none of so many things have.
func outside(count int) []int {
	return []int{-1, count, count + 1, math.MinInt, math.MaxInt}
}

func TestP3_4MissingEdgesAndNodesAreRefused(t *testing.T) {
	for _, g := range []api.Graph{{}, {Nodes: 3}, square()} {
		n := netOf(t, g)
		for _, i := range outside(len(g.Edges)) {
			if set, wrong := n.SetEdge(i, api.Edge{}), n.SetEdge(i, noEdge); set != api.ErrEdge || wrong != api.ErrEdge {
				t.Errorf("SetEdge(%d) of %d edges: %v, %v", i, len(g.Edges), set, wrong)
			}
			if code := n.CutEdge(i); code != api.ErrEdge {
				t.Errorf("CutEdge(%d) of %d edges: %v", i, len(g.Edges), code)
			}
		}
		for _, v := range outside(g.Nodes) {
			if code := n.CutNode(v); code != api.ErrNode {
				t.Errorf("CutNode(%d) of %d nodes: %v", v, g.Nodes, code)
			}
		}
		holds(t, n, g)
	}
}

func TestP3_4CutNode(t *testing.T) {
	g := square()
	for _, c := range []struct {
		node int
		left []api.Edge
	}{
		{0, []api.Edge{{From: 0, To: 1, Cap: 2, Cost: 20}, {From: 0, To: 0, Cap: 3, Cost: 30}, {From: 1, To: 2, Cap: 7, Cost: 70}}},
		{1, []api.Edge{{From: 2, To: 0, Cap: 4, Cost: 40}, {From: 1, To: 2, Cap: 7, Cost: 70}}},
		{2, []api.Edge{g.Edges[0], g.Edges[2], {From: 2, To: 0, Cap: 4, Cost: 40}, g.Edges[4], g.Edges[5]}},
		{3, []api.Edge{g.Edges[0], g.Edges[1], g.Edges[2], g.Edges[4], g.Edges[5]}},
	} {
		n := netOf(t, g)
		if code := n.CutNode(c.node); code != api.OK {
			t.Errorf("CutNode(%d): %v", c.node, code)
		}
		holds(t, n, api.Graph{Nodes: 3, Edges: c.left})
	}
}

func TestP3_5EdgeOutIn(t *testing.T) {
	for _, g := range []api.Graph{{}, {Nodes: 2}, square()} {
		n := netOf(t, g)
		holds(t, n, g)
		for _, i := range outside(len(g.Edges)) {
			if e, code := n.Edge(i); e != (api.Edge{}) || code != api.ErrEdge {
				t.Errorf("Edge(%d) of %d edges: %v, %v", i, len(g.Edges), e, code)
			}
		}
		for _, v := range outside(g.Nodes) {
			if out, code := n.Out(v); len(out) != 0 || code != api.ErrNode {
				t.Errorf("Out(%d) of %d nodes: %v, %v", v, g.Nodes, out, code)
			}
			if in, code := n.In(v); len(in) != 0 || code != api.ErrNode {
				t.Errorf("In(%d) of %d nodes: %v, %v", v, g.Nodes, in, code)
			}
		}
	}
	n := netOf(t, square())
	out, _ := n.Out(1)
	in, _ := n.In(1)
	if !slices.Equal(out, []int{1, 2, 5}) || !slices.Equal(in, []int{0, 2, 4}) {
		t.Errorf("Out(1) and In(1): %v, %v", out, in)
	}
}

// named: a node or an edge that keeps its name whatever its number is, so that edits can be done without numbers that move.
type named struct {
	nodes []int
	edges []api.Edge // From and To are names
}

func (m *named) numbered() api.Graph {
	g := api.Graph{Nodes: len(m.nodes)}
	for _, e := range m.edges {
		e.From, e.To = slices.Index(m.nodes, e.From), slices.Index(m.nodes, e.To)
		g.Edges = append(g.Edges, e)
	}
	return g
}

func (m *named) cutNode(v int) {
	name := m.nodes[v]
	m.nodes = append(append([]int{}, m.nodes[:v]...), m.nodes[v+1:]...)
	var left []api.Edge
	for _, e := range m.edges {
		if e.From != name && e.To != name {
			left = append(left, e)
		}
	}
	m.edges = left
}

func (m *named) cutEdge(i int) {
	m.edges = append(append([]api.Edge{}, m.edges[:i]...), m.edges[i+1:]...)
}

func (m *named) named(e api.Edge) api.Edge {
	e.From, e.To = m.nodes[e.From], m.nodes[e.To]
	return e
}

// TestP3_4EditsOneAfterTheOther: a long row of edits, each held against a graph of names.
func TestP3_4EditsOneAfterTheOther(t *testing.T) {
	row := trial.NewScatter(2)
	n, m := netOf(t, api.Graph{}), &named{}
	for step := range 4000 {
		var code api.Errno
		switch kind := row.Below(12); {
		case len(m.nodes) < 2 || kind < 2 && len(m.nodes) < 20:
			_, code = n.AddNode()
			m.nodes = append(m.nodes, step)
		case len(m.edges) < 3 || kind < 8 && len(m.edges) < 60:
			e := row.Edge(len(m.nodes))
			_, code = n.AddEdge(e)
			m.edges = append(m.edges, m.named(e))
		case kind < 9:
			i, e := row.Below(len(m.edges)), row.Edge(len(m.nodes))
			code = n.SetEdge(i, e)
			m.edges[i] = m.named(e)
		case kind < 11:
			i := row.Below(len(m.edges))
			code = n.CutEdge(i)
			m.cutEdge(i)
		default:
			v := row.Below(len(m.nodes))
			code = n.CutNode(v)
			m.cutNode(v)
		}
		if code != api.OK {
			t.Fatalf("step %d: %v", step, code)
		}
		holds(t, n, m.numbered())
	}
}

// TestP2ArgumentsAreLeftAlone: what is handed in isn't changed, its spare room neither, and isn't kept.
func TestP2ArgumentsAreLeftAlone(t *testing.T) {
	edges, same := trial.Watched(square().Edges, noEdge)
	g := api.Graph{Nodes: 4, Edges: edges}
	graph.Check(g)
	graph.Reverse(g)
	n := netOf(t, g)
	n.AddEdge(api.Edge{From: 1, To: 1})
	n.SetEdge(0, api.Edge{From: 2, To: 3})
	n.CutEdge(1)
	n.CutNode(0)
	if !same() {
		t.Error("a graph that was handed in is changed")
	}
	n = netOf(t, g)
	trial.Spoil(edges, noEdge)
	holds(t, n, square())
}

// TestP2AnswersAreNewMemory: whoever writes over an answer, and over its spare room, changes nothing.
func TestP2AnswersAreNewMemory(t *testing.T) {
	n := netOf(t, square())
	other := n.Fork()
	n.CutEdge(6) // leaves spare room behind the edges
	n.AddEdge(square().Edges[6])
	for range 2 {
		trial.Spoil(n.Plain().Edges, noEdge)
		out, _ := n.Out(1)
		again, _ := n.Out(1)
		in, _ := n.In(1)
		trial.Spoil(out, -7)
		trial.Spoil(in, -7)
		if !slices.Equal(again, []int{1, 2, 5}) {
			t.Errorf("two answers of Out share memory: %v", again)
		}
		n.AddEdge(api.Edge{})
		n.CutEdge(7)
	}
	holds(t, n, square())
	holds(t, other, square())
	plain := n.Plain()
	n.SetEdge(0, api.Edge{From: 3})
	n.AddEdge(api.Edge{})
	n.CutNode(2)
	if !equal(plain, square()) {
		t.Error("a net's edits change an earlier answer")
	}
	edges, same := trial.Watched(square().Edges, noEdge)
	trial.Spoil(graph.Reverse(api.Graph{Nodes: 4, Edges: edges}).Edges, noEdge)
	empty := graph.Reverse(api.Graph{Nodes: 4, Edges: edges[:0]})
	trial.Spoil(empty.Edges, api.Edge{})
	if !same() {
		t.Error("Reverse answers memory of its argument")
	}
	fork := n.Fork()
	trial.Spoil(fork.Plain().Edges, noEdge)
	if !equal(fork.Plain(), n.Plain()) {
		t.Error("a fork's answer shares memory with a net")
	}
}
