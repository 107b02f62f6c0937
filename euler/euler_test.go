package euler_test

import (
	"math"
	"slices"
	"testing"

	"compass/api"
	"compass/euler"
	"compass/trial"
)

var bothWays = []bool{true, false}

// outside: numbers that none of n things have.
func outside(n int) []int { return []int{-1, n, n + 1, math.MinInt, math.MaxInt} }

func graphOf(nodes int, pairs ...[2]int) api.Graph {
	g := api.Graph{Nodes: nodes}
	for _, p := range pairs {
		g.Edges = append(g.Edges, api.Edge{From: p[0], To: p[1]})
	}
	return g
}

func on(i int) euler.Step   { return euler.Step{Edge: i} }
func back(i int) euler.Step { return euler.Step{Edge: i, Back: true} }

func walkOf(start int, steps ...euler.Step) euler.Walk { return euler.Walk{Start: start, Steps: steps} }

func noWalk(w euler.Walk) bool { return w.Start == 0 && len(w.Steps) == 0 }

func triangle() api.Graph { return graphOf(4, [2]int{0, 1}, [2]int{1, 2}, [2]int{2, 0}) }

// bow: two triangles with node 2 in both, a loop there, and nothing at nodes 0 and 7.
func bow() api.Graph {
	return graphOf(8, [2]int{2, 1}, [2]int{1, 4}, [2]int{4, 2}, [2]int{5, 6}, [2]int{2, 5}, [2]int{6, 2}, [2]int{2, 2})
}

func TestP9TheChaptersExamples(t *testing.T) {
	g := triangle()
	for _, directed := range bothWays {
		w, v, code := euler.Tour(g, directed)
		if w.Start != 0 || len(w.Steps) != 3 || v != 0 || code != api.OK || !euler.Covers(g, w, directed) {
			t.Errorf("the triangle: %v, %d, %v", w, v, code)
		}
		more := g
		more.Edges = append(slices.Clone(g.Edges), api.Edge{From: 3, To: 3})
		if w, v, code := euler.Tour(more, directed); !noWalk(w) || v != 3 || code != api.ErrApart {
			t.Errorf("the triangle and a loop: %v, %d, %v", w, v, code)
		}
		if w, v, code := euler.Tour(graphOf(2, [2]int{0, 1}), directed); !noWalk(w) || v != 0 || code != api.ErrParity {
			t.Errorf("one edge: %v, %d, %v", w, v, code)
		}
	}
}

func TestP9_1End(t *testing.T) {
	g := bow()
	for _, c := range []struct {
		w    euler.Walk
		end  int
		code api.Errno
	}{
		{walkOf(0), 0, api.OK},
		{walkOf(7), 7, api.OK},
		{walkOf(2, on(0)), 1, api.OK},
		{walkOf(1, back(0)), 2, api.OK},
		{walkOf(2, on(0), on(1), on(2), on(6), back(6), back(5)), 6, api.OK},
		{walkOf(2, on(0), back(0), on(0), back(0)), 2, api.OK}, // an edge may be taken often
		{walkOf(1, on(0)), 0, api.ErrApart},                    // the first step not from Start
		{walkOf(2, back(0)), 0, api.ErrApart},
		{walkOf(2, on(0), on(0)), 0, api.ErrApart},
		{walkOf(2, on(0), back(1)), 0, api.ErrApart},
		{walkOf(2, on(0), on(1), on(3)), 0, api.ErrApart},
		{walkOf(2, on(7)), 0, api.ErrEdge},
		{walkOf(2, on(0), back(-1)), 0, api.ErrEdge},
		// the steps are looked at one behind the other
		{walkOf(2, on(1), on(7)), 0, api.ErrApart},
		{walkOf(2, on(7), on(1)), 0, api.ErrEdge},
		{walkOf(2, on(0), on(7), on(0)), 0, api.ErrEdge},
		{walkOf(2, on(0), on(0), on(7)), 0, api.ErrApart},
		{walkOf(8, on(7)), 0, api.ErrNode},
		{walkOf(-1, on(1)), 0, api.ErrNode},
	} {
		if end, code := euler.End(g, c.w); end != c.end || code != c.code {
			t.Errorf("End of %v: %d, %v; it should be %d, %v", c.w, end, code, c.end, c.code)
		}
	}
}

func TestP9_1EndTakesAllNumbers(t *testing.T) {
	for _, g := range []api.Graph{{}, {Nodes: 1}, {Nodes: api.MaxNodes}, triangle(), bow()} {
		for _, start := range outside(g.Nodes) {
			for _, w := range []euler.Walk{walkOf(start), walkOf(start, on(0)), walkOf(start, on(math.MaxInt))} {
				if end, code := euler.End(g, w); end != 0 || code != api.ErrNode {
					t.Errorf("%d nodes: End of %v: %d, %v", g.Nodes, w, end, code)
				}
				for _, directed := range bothWays {
					if euler.Covers(g, w, directed) {
						t.Errorf("%d nodes: %v covers", g.Nodes, w)
					}
				}
			}
		}
		if g.Nodes == 0 {
			continue
		}
		for _, i := range outside(len(g.Edges)) {
			for _, s := range []euler.Step{on(i), back(i)} {
				if end, code := euler.End(g, walkOf(0, s)); end != 0 || code != api.ErrEdge {
					t.Errorf("%d edges: End by %v: %d, %v", len(g.Edges), s, end, code)
				}
			}
		}
	}
}

func TestP9_1Covers(t *testing.T) {
	g := bow()
	onward := []euler.Step{on(0), on(1), on(2), on(6), on(4), on(3), on(5)}
	turned := []euler.Step{back(2), back(1), back(0), on(6), on(4), on(3), on(5)}
	loopBack := []euler.Step{on(0), on(1), on(2), back(6), on(4), on(3), on(5)}
	for _, c := range []struct {
		name                 string
		w                    euler.Walk
		directed, undirected bool
	}{
		{"onward", walkOf(2, onward...), true, true},
		{"from another node", walkOf(4, slices.Concat(onward[2:], onward[:2])...), true, true},
		{"one triangle turned", walkOf(2, turned...), false, true},
		{"the loop back", walkOf(2, loopBack...), false, true},
		{"from the wrong node", walkOf(1, onward...), false, false},
		{"a loop missing", walkOf(2, slices.Concat(onward[:3], onward[4:])...), false, false},
		{"a triangle missing", walkOf(2, onward[:4]...), false, false},
		{"not to the end", walkOf(2, onward[:6]...), false, false},
		{"a loop twice", walkOf(2, slices.Insert(slices.Clone(onward), 3, on(6))...), false, false},
		{"a loop twice, an edge missing", walkOf(2, on(6), on(0), on(1), on(2), on(6), on(4), on(3)), false, false},
		{"to and fro", walkOf(2, on(0), back(0), on(0), back(0), on(0), back(0), on(6)), false, false},
		{"twice round", walkOf(2, slices.Concat(onward, onward)...), false, false},
		{"nothing", walkOf(2), false, false},
		{"apart", walkOf(2, slices.Concat(onward[1:], onward[:1])...), false, false},
		{"no edge", walkOf(2, append(slices.Clone(onward[:6]), on(7))...), false, false},
		{"an edge more", walkOf(2, append(slices.Clone(onward), on(-1))...), false, false},
	} {
		if got := euler.Covers(g, c.w, true); got != c.directed {
			t.Errorf("%s, directed: %v", c.name, got)
		}
		if got := euler.Covers(g, c.w, false); got != c.undirected {
			t.Errorf("%s: %v", c.name, got)
		}
	}
	for _, directed := range bothWays {
		if !euler.Covers(api.Graph{Nodes: 3}, walkOf(2), directed) {
			t.Error("no steps cover no edges, from any node")
		}
	}
	// A way that takes each edge once but ends elsewhere.
	open := graphOf(3, [2]int{0, 1}, [2]int{1, 2})
	if euler.Covers(open, walkOf(0, on(0), on(1)), false) || euler.Covers(open, walkOf(0, on(0), on(1)), true) {
		t.Error("a way that isn't closed covers")
	}
}

// endWords: the document's words, done as they stand.
func endWords(g api.Graph, w euler.Walk) (int, api.Errno) {
	if w.Start < 0 || w.Start >= g.Nodes {
		return 0, api.ErrNode
	}
	last := w.Start
	for _, s := range w.Steps {
		if s.Edge < 0 || s.Edge >= len(g.Edges) {
			return 0, api.ErrEdge
		}
		from, to := g.Edges[s.Edge].From, g.Edges[s.Edge].To
		if s.Back {
			from, to = to, from
		}
		if from != last {
			return 0, api.ErrApart
		}
		last = to
	}
	return last, api.OK
}

// coversWords: likewise.
func coversWords(g api.Graph, w euler.Walk, directed bool) bool {
	end, code := endWords(g, w)
	if code != api.OK || end != w.Start {
		return false
	}
	times := make([]int, len(g.Edges))
	for _, s := range w.Steps {
		times[s.Edge]++
		if directed && s.Back {
			return false
		}
	}
	return !slices.ContainsFunc(times, func(n int) bool { return n != 1 })
}

// eachWalk: all walks of up to so many steps, with starts and edges from least on, up to one more than there are (less, if least is 0).
func eachWalk(g api.Graph, most, least int, look func(euler.Walk)) {
	var steps []euler.Step
	for i := least; i < len(g.Edges)-least; i++ {
		steps = append(steps, on(i), back(i))
	}
	var longer func(w euler.Walk)
	longer = func(w euler.Walk) {
		look(w)
		if len(w.Steps) == most {
			return
		}
		for _, s := range steps {
			longer(walkOf(w.Start, append(slices.Clone(w.Steps), s)...))
		}
	}
	for start := least; start < g.Nodes-least; start++ {
		longer(walkOf(start))
	}
}

func TestP9_1AllShortWalks(t *testing.T) {
	covering := 0
	for _, c := range []struct{ nodes, edges, most, least int }{
		{0, 0, 2, -1}, {1, 0, 2, -1}, {1, 2, 3, -1}, {2, 1, 3, -1}, {2, 2, 3, -1}, {2, 3, 3, -1}, {3, 3, 3, 0}, {2, 3, 4, 0},
	} {
		for g := range trial.AllGraphs(c.nodes, c.edges) {
			eachWalk(g, c.most, c.least, func(w euler.Walk) {
				want, wantCode := endWords(g, w)
				if end, code := euler.End(g, w); end != want || code != wantCode {
					t.Fatalf("%v: End of %v: %d, %v; it should be %d, %v", g, w, end, code, want, wantCode)
				}
				for _, directed := range bothWays {
					want := coversWords(g, w, directed)
					if got := euler.Covers(g, w, directed); got != want {
						t.Fatalf("%v: Covers of %v, directed %v: %v", g, w, directed, got)
					}
					if want {
						covering++
					}
				}
			})
		}
	}
	if covering == 0 {
		t.Error("no walk covers")
	}
}

// together: for each node the least one that hangs together with it.
func together(g api.Graph) []int {
	least := make([]int, g.Nodes)
	for v := range least {
		least[v] = v
	}
	for changed := true; changed; {
		changed = false
		for _, e := range g.Edges {
			if least[e.From] != least[e.To] {
				both := min(least[e.From], least[e.To])
				least[e.From], least[e.To], changed = both, both, true
			}
		}
	}
	return least
}

// tourWords: the code and the node that the document's words ask for; without an error the node that the walk begins at.
func tourWords(g api.Graph, directed bool) (int, api.Errno) {
	out, in, has := make([]int, g.Nodes), make([]int, g.Nodes), make([]bool, g.Nodes)
	for _, e := range g.Edges {
		out[e.From]++
		in[e.To]++
		has[e.From], has[e.To] = true, true
	}
	for v := range g.Nodes {
		if directed && out[v] != in[v] || !directed && (out[v]+in[v])%2 == 1 {
			return v, api.ErrParity
		}
	}
	first := max(0, slices.Index(has, true))
	least := together(g)
	for v := range g.Nodes {
		if has[v] && least[v] != least[first] {
			return v, api.ErrApart
		}
	}
	return first, api.OK
}

// holdTour: Tour answers of a right graph as the document's words say; its code.
func holdTour(t *testing.T, g api.Graph, directed bool) api.Errno {
	t.Helper()
	want, wantCode := tourWords(g, directed)
	w, v, code := euler.Tour(g, directed)
	if code != wantCode {
		t.Fatalf("%v, directed %v: Tour: %v; it should be %v", g, directed, code, wantCode)
	}
	if code != api.OK {
		if !noWalk(w) || v != want {
			t.Fatalf("%v, directed %v: Tour: %v, %d beside %v; the node should be %d", g, directed, w, v, code, want)
		}
		return code
	}
	if v != 0 || w.Start != want {
		t.Fatalf("%v, directed %v: Tour: %v, %d; it should begin at %d", g, directed, w, v, want)
	}
	if g.Nodes > 0 && (!coversWords(g, w, directed) || !euler.Covers(g, w, directed)) {
		t.Fatalf("%v, directed %v: Tour: %v isn't over all edges and back", g, directed, w)
	}
	return code
}

func TestP9_2AllSmallGraphs(t *testing.T) {
	times := map[api.Errno]int{}
	look := func(nodes, edges int) {
		for g := range trial.AllGraphs(nodes, edges) {
			for _, directed := range bothWays {
				times[holdTour(t, g, directed)]++
			}
		}
	}
	for nodes := range 4 {
		for edges := range 5 {
			look(nodes, edges)
		}
	}
	look(1, 9)
	look(2, 6)
	look(3, 5)
	look(4, 4)
	for _, code := range []api.Errno{api.OK, api.ErrParity, api.ErrApart} {
		if times[code] == 0 {
			t.Errorf("%v never came", code)
		}
	}
}

func TestP9_2TheNodeThatShowsIt(t *testing.T) {
	for _, c := range []struct {
		name                 string
		g                    api.Graph
		directed, undirected api.Fault
	}{
		{"edges that meet", graphOf(3, [2]int{1, 2}, [2]int{1, 2}), api.Fault{Code: api.ErrParity, At: 1}, api.Fault{}},
		{"a turned triangle", graphOf(4, [2]int{1, 2}, [2]int{3, 2}, [2]int{3, 1}), api.Fault{Code: api.ErrParity, At: 2}, api.Fault{}},
		{"a chain from the last node", graphOf(4, [2]int{3, 2}, [2]int{2, 1}), api.Fault{Code: api.ErrParity, At: 1}, api.Fault{Code: api.ErrParity, At: 1}},
		{"a loop doesn't make it even", graphOf(3, [2]int{2, 1}, [2]int{1, 1}, [2]int{2, 2}), api.Fault{Code: api.ErrParity, At: 1}, api.Fault{Code: api.ErrParity, At: 1}},
		{"apart and uneven", graphOf(6, [2]int{0, 0}, [2]int{2, 2}, [2]int{4, 5}), api.Fault{Code: api.ErrParity, At: 4}, api.Fault{Code: api.ErrParity, At: 4}},
		{"nodes without edges don't count", graphOf(9, [2]int{2, 4}, [2]int{4, 2}, [2]int{7, 7}, [2]int{6, 6}), api.Fault{Code: api.ErrApart, At: 6}, api.Fault{Code: api.ErrApart, At: 6}},
		{"parts within one another", graphOf(6, [2]int{4, 1}, [2]int{1, 4}, [2]int{5, 3}, [2]int{3, 5}), api.Fault{Code: api.ErrApart, At: 3}, api.Fault{Code: api.ErrApart, At: 3}},
		{"the edges' order is nothing to it", graphOf(5, [2]int{4, 4}, [2]int{3, 3}, [2]int{1, 1}), api.Fault{Code: api.ErrApart, At: 3}, api.Fault{Code: api.ErrApart, At: 3}},
		{"a node between has no edge", graphOf(3, [2]int{0, 2}, [2]int{2, 0}), api.Fault{}, api.Fault{}},
	} {
		for _, directed := range bothWays {
			want := c.undirected
			if directed {
				want = c.directed
			}
			if _, v, code := euler.Tour(c.g, directed); v != want.At || code != want.Code {
				t.Errorf("%s, directed %v: %d, %v; it should be %v", c.name, directed, v, code, want)
			}
			holdTour(t, c.g, directed)
		}
	}
}

func TestP9_2NoEdges(t *testing.T) {
	for _, nodes := range []int{0, 1, 2, api.MaxNodes} {
		for _, directed := range bothWays {
			if w, v, code := euler.Tour(api.Graph{Nodes: nodes}, directed); !noWalk(w) || v != 0 || code != api.OK {
				t.Errorf("%d nodes: %v, %d, %v", nodes, w, v, code)
			}
		}
	}
}

// rounds: a graph that closed ways make, each from a node that is in one already; turned: some edges are turned about, so that it is even, but not always directed.
func rounds(row *trial.Scatter, nodes, edges int, turned bool) api.Graph {
	g := api.Graph{Nodes: nodes}
	home := row.Below(nodes)
	for len(g.Edges) < edges {
		if len(g.Edges) > 0 {
			home = g.Edges[row.Below(len(g.Edges))].From
		}
		v := home
		for left := min(row.Between(1, 9), edges-len(g.Edges)); left > 0; left-- {
			to := row.Below(nodes)
			if left == 1 {
				to = home
			}
			g.Edges = append(g.Edges, api.Edge{From: v, To: to})
			v = to
		}
	}
	for i := range g.Edges {
		j := row.Below(i + 1)
		g.Edges[i], g.Edges[j] = g.Edges[j], g.Edges[i]
		if turned && row.Below(2) == 0 {
			g.Edges[j].From, g.Edges[j].To = g.Edges[j].To, g.Edges[j].From
		}
	}
	return g
}

func TestP9_2ScatteredRounds(t *testing.T) {
	row := trial.NewScatter(51)
	for range 1500 {
		nodes := row.Between(1, 30)
		edges := row.Between(0, 4*nodes)
		if g := rounds(row, nodes, edges, false); holdTour(t, g, true) != api.OK || holdTour(t, g, false) != api.OK {
			t.Fatalf("%v: no tour", g)
		}
		g := rounds(row, nodes, edges, true)
		if holdTour(t, g, false) != api.OK {
			t.Fatalf("%v: no tour", g)
		}
		holdTour(t, g, true)
		if edges > 0 { // an edge missing, or one elsewhere
			g.Edges[row.Below(edges)] = row.Edge(nodes)
			holdTour(t, g, false)
			g.Edges = g.Edges[1:]
			holdTour(t, g, true)
		}
		g = row.Graph(nodes, edges)
		holdTour(t, g, true)
		holdTour(t, g, false)
	}
}

// TestP9_2FullGraphs: as many nodes and edges as there may be.
func TestP9_2FullGraphs(t *testing.T) {
	row := trial.NewScatter(52)
	ring := api.Graph{Nodes: api.MaxNodes}
	for v := range api.MaxNodes {
		ring.Edges = append(ring.Edges, api.Edge{From: v, To: (v + 1) % api.MaxNodes})
	}
	four := api.Graph{Nodes: api.MaxNodes, Edges: slices.Concat(ring.Edges, ring.Edges, ring.Edges, ring.Edges)}
	star := api.Graph{Nodes: api.MaxNodes}
	for v := range api.MaxNodes {
		star.Edges = append(star.Edges, api.Edge{From: v, To: 500}, api.Edge{From: 500, To: v})
	}
	all := []api.Graph{ring, four, star, {Nodes: 1, Edges: make([]api.Edge, api.MaxEdges)}}
	for _, nodes := range []int{1, 2, 64, api.MaxNodes} {
		all = append(all, rounds(row, nodes, api.MaxEdges, false))
	}
	for k, g := range all {
		for _, directed := range bothWays {
			if code := holdTour(t, g, directed); code != api.OK {
				t.Errorf("graph %d, directed %v: %v", k, directed, code)
			}
		}
	}
	if code := holdTour(t, rounds(row, api.MaxNodes, api.MaxEdges, true), false); code != api.OK {
		t.Errorf("turned edges: %v", code)
	}
	holdTour(t, row.Graph(api.MaxNodes, api.MaxEdges), true)
	holdTour(t, row.Graph(api.MaxNodes, api.MaxEdges), false)
}

// TestP9WrongGraphsAreRefused: ahead of any other error.
func TestP9WrongGraphsAreRefused(t *testing.T) {
	for _, c := range trial.WrongGraphs() {
		for _, w := range []euler.Walk{walkOf(0), walkOf(0, on(0)), walkOf(-1, on(-1)), walkOf(math.MaxInt, back(math.MinInt))} {
			if end, code := euler.End(c.Graph, w); end != 0 || code != c.Fault.Code {
				t.Errorf("a graph with fault %v: End: %d, %v", c.Fault, end, code)
			}
			for _, directed := range bothWays {
				if euler.Covers(c.Graph, w, directed) {
					t.Errorf("a graph with fault %v is covered by %v", c.Fault, w)
				}
			}
		}
		for _, directed := range bothWays {
			if w, v, code := euler.Tour(c.Graph, directed); !noWalk(w) || v != 0 || code != c.Fault.Code {
				t.Errorf("a graph with fault %v: Tour: %v, %d, %v", c.Fault, w, v, code)
			}
		}
	}
	// A walk that would cover, but for labels that aren't right.
	wrong := graphOf(1, [2]int{0, 0})
	wrong.Edges[0].Cap = -1
	if euler.Covers(wrong, walkOf(0, on(0)), true) {
		t.Error("a graph that isn't right is covered")
	}
}

func sameWalk(a, b euler.Walk) bool { return a.Start == b.Start && slices.Equal(a.Steps, b.Steps) }

// TestP2: graphs and walks aren't changed, the same call answers the same, and no answer shares memory with anything.
func TestP2(t *testing.T) {
	row := trial.NewScatter(53)
	for range 300 {
		plain := rounds(row, 7, row.Between(1, 20), false)
		edges, sameEdges := trial.Watched(plain.Edges, api.Edge{From: -7})
		g := api.Graph{Nodes: 7, Edges: edges}
		for _, directed := range bothWays {
			first, _, _ := euler.Tour(g, directed)
			second, _, _ := euler.Tour(g, directed)
			third, _, _ := euler.Tour(g, directed)
			trial.Spoil(first.Steps, on(-7))
			again, _, _ := euler.Tour(g, directed)
			if !sameWalk(second, third) || !sameWalk(second, again) || !sameEdges() {
				t.Fatal("an answer shares memory, or a graph is changed")
			}
			steps, sameSteps := trial.Watched(second.Steps, on(-7))
			w := walkOf(second.Start, steps...)
			if !euler.Covers(g, w, directed) || !euler.Covers(g, w, directed) || !sameSteps() || !sameEdges() {
				t.Fatal("Covers changes what it is handed")
			}
			if end, code := euler.End(g, w); end != w.Start || code != api.OK || !sameSteps() || !sameEdges() {
				t.Fatal("End changes what it is handed")
			}
		}
	}
}
