package mincost_test

import (
	"math"
	"slices"
	"testing"

	"compass/api"
	"compass/mincost"
	"compass/proof"
	"compass/trial"
)

var kinds = []int{mincost.Ways, mincost.Circles, mincost.Scaling}

// notKinds: numbers of no kind.
func notKinds() []int { return []int{0, 4, -1, 1 << 32, 1<<32 + 1, math.MinInt, math.MaxInt} }

// edge: From, To, Cap and Cost.
type edge [4]int

func graphOf(nodes int, edges ...edge) api.Graph {
	g := api.Graph{Nodes: nodes}
	for _, e := range edges {
		g.Edges = append(g.Edges, api.Edge{From: e[0], To: e[1], Cap: int64(e[2]), Cost: int64(e[3])})
	}
	return g
}

// example: the sixth example of the whole.
func example() api.Graph { return graphOf(2, edge{0, 1, 9, 5}, edge{0, 1, 2, 3}) }

// netOut: how much more goes out of a node than comes into it.
func netOut(g api.Graph, on []int64, v int) int64 {
	var sum int64
	for i, e := range g.Edges {
		if e.From == v {
			sum += on[i]
		}
		if e.To == v {
			sum -= on[i]
		}
	}
	return sum
}

func costOf(g api.Graph, on []int64) int64 {
	var sum int64
	for i, x := range on {
		sum += g.Edges[i].Cost * x
	}
	return sum
}

// meets: do the amounts fit, and meet the supplies?
func meets(g api.Graph, supply, on []int64) bool {
	for i, e := range g.Edges {
		if on[i] < 0 || on[i] > e.Cap {
			return false
		}
	}
	for v := range g.Nodes {
		if netOut(g, on, v) != supply[v] {
			return false
		}
	}
	return true
}

// leastCost: found by trying all amounts; whether any meet the supplies.
func leastCost(g api.Graph, supply []int64, most int64) (least int64, any bool) {
	for on := range trial.Lists(len(g.Edges), 0, most) {
		if meets(g, supply, on) && (!any || costOf(g, on) < least) {
			least, any = costOf(g, on), true
		}
	}
	return least, any
}

// wantPlan: amounts that meet the supplies and make the cost, and potentials that prove it by the document's words.
func wantPlan(t *testing.T, g api.Graph, supply []int64, p proof.Plan, cost int64) {
	t.Helper()
	if !slices.Equal(p.Supply, supply) || len(p.On) != len(g.Edges) || len(p.Pot) != g.Nodes {
		t.Fatalf("%v: %v: %v", g, supply, p)
	}
	if !meets(g, supply, p.On) || costOf(g, p.On) != cost {
		t.Fatalf("%v: %v isn't met by %v, or it doesn't cost %d", g, supply, p.On, cost)
	}
	for i, e := range g.Edges {
		r := e.Cost + p.Pot[e.From] - p.Pot[e.To]
		if r > 0 && p.On[i] != 0 || r < 0 && p.On[i] != e.Cap {
			t.Fatalf("%v: %v: edge %d has %d with potentials %v", g, supply, i, p.On[i], p.Pot)
		}
	}
	if proved, code := proof.Cheapest(g, p); proved != cost || code != api.OK {
		t.Fatalf("%v: %v, cost %d, isn't proved: %d, %v", g, p, cost, proved, code)
	}
}

// wantSide: more is supplied on the side than can leave it; and no plan beside it.
func wantSide(t *testing.T, g api.Graph, supply []int64, p proof.Plan, cost int64, side []bool) {
	t.Helper()
	if len(p.Supply) != 0 || len(p.On) != 0 || len(p.Pot) != 0 || cost != 0 || len(side) != g.Nodes {
		t.Fatalf("%v: %v: %v, %d, %v beside ErrNoWay", g, supply, p, cost, side)
	}
	var left int64
	for v, on := range side {
		if on {
			left += supply[v]
		}
	}
	for _, e := range g.Edges {
		if side[e.From] && !side[e.To] {
			left -= e.Cap
		}
	}
	if left <= 0 || proof.NoPlan(g, supply, side) != api.OK {
		t.Fatalf("%v: %v: the side %v proves nothing", g, supply, side)
	}
}

// holdKinds: all kinds answer what is right, and the same cost and error, which are answered here.
func holdKinds(t *testing.T, g api.Graph, supply []int64) (cost int64, code api.Errno) {
	t.Helper()
	for _, kind := range kinds {
		p, c, side, e := mincost.Solve(g, supply, kind)
		switch e {
		case api.OK:
			wantPlan(t, g, supply, p, c)
			if len(side) != 0 {
				t.Fatalf("%v: %v, kind %d: a side beside a plan: %v", g, supply, kind, side)
			}
		case api.ErrNoWay:
			wantSide(t, g, supply, p, c, side)
		default:
			t.Fatalf("%v: %v, kind %d: %v", g, supply, kind, e)
		}
		if kind != kinds[0] && (c != cost || e != code) {
			t.Fatalf("%v: %v, kind %d: %d, %v; another kind answers %d, %v", g, supply, kind, c, e, cost, code)
		}
		cost, code = c, e
	}
	return cost, code
}

// holdWords: likewise, what trying all amounts tells, of capacities up to most.
func holdWords(t *testing.T, g api.Graph, supply []int64, most int64) {
	t.Helper()
	least, any := leastCost(g, supply, most)
	want := api.OK
	if !any {
		want = api.ErrNoWay
	}
	if cost, code := holdKinds(t, g, supply); cost != least || code != want {
		t.Fatalf("%v: %v: %d, %v; it should be %d, %v", g, supply, cost, code, least, want)
	}
}

func TestP14TheChaptersExamples(t *testing.T) {
	for _, kind := range kinds {
		p, cost, side, code := mincost.Solve(example(), []int64{3, -3}, kind)
		if !slices.Equal(p.On, []int64{1, 2}) || cost != 11 || len(side) != 0 || code != api.OK {
			t.Errorf("kind %d: %v, %d, %v, %v", kind, p, cost, side, code)
		}
		p, cost, side, code = mincost.Solve(example(), []int64{-1, 1}, kind)
		if len(p.On) != 0 || cost != 0 || !slices.Equal(side, []bool{false, true}) || code != api.ErrNoWay {
			t.Errorf("kind %d, against the edges: %v, %d, %v, %v", kind, p, cost, side, code)
		}
	}
	if mincost.Ways != 1 || mincost.Circles != 2 || mincost.Scaling != 3 {
		t.Error("the kinds' numbers aren't the document's")
	}
}

func TestP14_1Solve(t *testing.T) {
	const most = api.MaxLabel
	for _, c := range []struct {
		name   string
		g      api.Graph
		supply []int64
		cost   int64
		code   api.Errno
	}{
		{"nothing", graphOf(0), nil, 0, api.OK},
		{"nodes alone", graphOf(2), []int64{0, 0}, 0, api.OK},
		{"nodes alone that supply", graphOf(2), []int64{1, -1}, 0, api.ErrNoWay},
		{"nothing is supplied", example(), []int64{0, 0}, 0, api.OK},
		{"as much as can go", example(), []int64{11, -11}, 51, api.OK},
		{"more than can go", example(), []int64{12, -12}, 0, api.ErrNoWay},
		{"all at the limits", graphOf(2, edge{0, 1, most, most}), []int64{most, -most}, most * most, api.OK},
		{"all at the limits, below 0", graphOf(2, edge{1, 0, most, -most}), []int64{-most, most}, -most * most, api.OK},
		{"a loop that spares something is full", graphOf(1, edge{0, 0, 7, -3}), []int64{0}, -21, api.OK},
		{"a loop that costs something is empty", graphOf(1, edge{0, 0, 7, 3}), []int64{0}, 0, api.OK},
		{"a loop helps no supply", graphOf(2, edge{0, 0, 7, -3}, edge{0, 1, 2, 1}), []int64{3, -3}, 0, api.ErrNoWay},
		{"a circle that spares something is full", graphOf(3, edge{0, 1, 4, 2}, edge{1, 2, 5, -4}, edge{2, 0, 6, 1}), []int64{0, 0, 0}, -4, api.OK},
		{"a circle that costs nothing", graphOf(2, edge{0, 1, 4, 2}, edge{1, 0, 5, -2}), []int64{0, 0}, 0, api.OK},
		{"a circle that costs something is empty", graphOf(2, edge{0, 1, 4, 2}, edge{1, 0, 5, -1}), []int64{0, 0}, 0, api.OK},
		{"an edge below 0 that leads nowhere", graphOf(2, edge{0, 1, 4, -9}), []int64{0, 0}, 0, api.OK},
		{"edges of capacity 0", graphOf(2, edge{0, 1, 0, -most}, edge{1, 0, 0, -most}, edge{0, 1, 1, most}), []int64{1, -1}, most, api.OK},
		{"a dear way beside a narrow cheap one", graphOf(3, edge{0, 1, 1, 1}, edge{1, 2, 9, 1}, edge{0, 2, 9, 5}), []int64{3, 0, -3}, 12, api.OK},
		{"what was sent must go another way", graphOf(4, edge{0, 1, 1, 1}, edge{0, 2, 1, 5}, edge{1, 2, 1, 1}, edge{1, 3, 1, 5}, edge{2, 3, 1, 1}), []int64{2, 0, 0, -2}, 12, api.OK},
		{"several that supply, several that want", graphOf(4, edge{0, 2, 3, 4}, edge{0, 3, 3, 1}, edge{1, 2, 3, 2}, edge{1, 3, 3, 7}), []int64{2, 2, -1, -3}, 2 + 2 + 7, api.OK},
		{"a narrow place on the way", graphOf(3, edge{0, 1, 9, 0}, edge{1, 2, 2, 0}), []int64{3, 0, -3}, 0, api.ErrNoWay},
		{"one part can, the other can't", graphOf(4, edge{0, 1, 9, 3}, edge{2, 3, 1, 0}), []int64{2, -2, 2, -2}, 0, api.ErrNoWay},
		{"each part by itself", graphOf(4, edge{0, 1, 9, 3}, edge{3, 2, 9, -most}), []int64{2, -2, -5, 5}, 6 - 5*most, api.OK},
	} {
		if cost, code := holdKinds(t, c.g, c.supply); cost != c.cost || code != c.code {
			t.Errorf("%s: %d, %v; it should be %d, %v", c.name, cost, code, c.cost, c.code)
		}
	}
}

// evenSupplies: each list of supplies from -most to most that even out.
func evenSupplies(nodes int, most int64) [][]int64 {
	var all [][]int64
	for supply := range trial.Lists(nodes, -most, most) {
		var sum int64
		for _, s := range supply {
			sum += s
		}
		if sum == 0 {
			all = append(all, supply)
		}
	}
	return all
}

// TestP14_1AllSmallGraphs: each graph of so many nodes and edges, with each row of a few capacities and costs, and each row of small supplies.
func TestP14_1AllSmallGraphs(t *testing.T) {
	for _, c := range []struct {
		nodes, edges       int
		leastCap, most     int64
		leastCost, greater int64
	}{{1, 2, 0, 2, -1, 1}, {2, 2, 0, 2, -1, 2}, {2, 3, 1, 1, -1, 1}, {3, 2, 1, 2, -1, 1}, {3, 3, 1, 1, -1, 0}} {
		for g := range trial.AllGraphs(c.nodes, c.edges) {
			for caps := range trial.Lists(c.edges, c.leastCap, c.most) {
				for costs := range trial.Lists(c.edges, c.leastCost, c.greater) {
					for i := range g.Edges {
						g.Edges[i].Cap, g.Edges[i].Cost = caps[i], costs[i]
					}
					for _, supply := range evenSupplies(c.nodes, 1) {
						holdWords(t, g, supply, c.most)
					}
				}
			}
		}
	}
}

// somehow: supplies that amounts picked at random meet.
func somehow(row *trial.Scatter, g api.Graph) []int64 {
	supply := make([]int64, g.Nodes)
	for _, e := range g.Edges {
		x := int64(row.Between(0, int(e.Cap)))
		if supply[e.From]+x <= api.MaxLabel && supply[e.To]-x >= -api.MaxLabel {
			supply[e.From] += x
			supply[e.To] -= x
		}
	}
	return supply
}

// anyhow: supplies that even out, whether or not anything meets them.
func anyhow(row *trial.Scatter, nodes, most int) []int64 {
	supply := make([]int64, nodes)
	for range nodes {
		u, v, x := row.Below(nodes), row.Below(nodes), int64(row.Below(most+1))
		if u != v && supply[u]+x <= api.MaxLabel && supply[v]-x >= -api.MaxLabel {
			supply[u] += x
			supply[v] -= x
		}
	}
	return supply
}

func TestP14_1ScatteredSmallGraphs(t *testing.T) {
	row := trial.NewScatter(141)
	for round := range 1500 {
		nodes := row.Between(1, 5)
		g := row.Small(nodes, row.Below(7), 2, -3, 4)
		supply := somehow(row, g)
		if round%3 == 0 {
			supply = anyhow(row, nodes, 1)
		}
		holdWords(t, g, supply, 2)
	}
}

func TestP14_1ScatteredGraphs(t *testing.T) {
	row := trial.NewScatter(142)
	met := 0
	for round := range 1200 {
		nodes := row.Between(2, 40)
		edges := row.Below(5 * nodes)
		g := row.Graph(nodes, edges)
		if round%2 == 0 {
			g = row.Small(nodes, edges, []int{1, 9, api.MaxLabel}[round%3], []int{-api.MaxLabel, -2, 0}[round/2%3], 2)
		}
		supply := somehow(row, g)
		if round%5 == 0 {
			supply = anyhow(row, nodes, 3)
		}
		if _, code := holdKinds(t, g, supply); code == api.OK {
			met++
		}
	}
	if met < 300 || met == 1200 {
		t.Errorf("%d of 1200 supplies were met", met)
	}
}

// wantNone: an error, and nothing beside it.
func wantNone(t *testing.T, name string, p proof.Plan, cost int64, side []bool, code, want api.Errno) {
	t.Helper()
	if len(p.Supply) != 0 || len(p.On) != 0 || len(p.Pot) != 0 || cost != 0 || len(side) != 0 || code != want {
		t.Errorf("%s: %v, %d, %v, %v; it should be %v", name, p, cost, side, code, want)
	}
}

// wrongSupplies: of two nodes.
func wrongSupplies() [][]int64 {
	const most, least, over = math.MaxInt64, math.MinInt64, api.MaxLabel + 1
	return [][]int64{
		nil, {0}, {0, 0, 0}, {1, 1}, {1, 0}, {0, -1}, {1, -2},
		{over, -over}, {-over, over}, {over, 0}, {most, -most}, {most, least}, {least, least}, {least, 0}, {1 << 62, 1 << 62},
	}
}

// TestP14_1Refuses: in the order of the errors.
func TestP14_1Refuses(t *testing.T) {
	for _, supply := range wrongSupplies() {
		for _, kind := range append(notKinds(), kinds...) {
			p, cost, side, code := mincost.Solve(example(), supply, kind)
			wantNone(t, "wrong supplies", p, cost, side, code, api.ErrSupply)
			p, cost, side, code = mincost.Solve(api.Graph{}, append([]int64{0}, supply...), kind)
			wantNone(t, "supplies of no nodes", p, cost, side, code, api.ErrSupply)
		}
	}
	for _, supply := range [][]int64{{3, -3}, {-1, 1}, {0, 0}} { // ahead of ErrNoWay
		for _, kind := range notKinds() {
			p, cost, side, code := mincost.Solve(example(), supply, kind)
			wantNone(t, "a wrong kind", p, cost, side, code, api.ErrKind)
		}
	}
	if cost, code := holdKinds(t, graphOf(3), []int64{api.MaxLabel, -api.MaxLabel, 0}); cost != 0 || code != api.ErrNoWay {
		t.Errorf("supplies at their limits: %d, %v", cost, code)
	}
}

// TestP14_1WrongGraphsAreRefused: ahead of any other error.
func TestP14_1WrongGraphsAreRefused(t *testing.T) {
	for _, c := range trial.WrongGraphs() {
		for _, kind := range append(notKinds(), kinds...) {
			for _, supply := range append(wrongSupplies(), []int64{0, 0}) {
				p, cost, side, code := mincost.Solve(c.Graph, supply, kind)
				wantNone(t, "a wrong graph", p, cost, side, code, c.Fault.Code)
			}
		}
	}
}

// grid: nodes in a square, each joined to those beside it, both ways.
func grid(row *trial.Scatter, side int) api.Graph {
	g := api.Graph{Nodes: side * side}
	join := func(u, v int) {
		for _, ends := range [][2]int{{u, v}, {v, u}} {
			e := row.Edge(g.Nodes)
			e.From, e.To = ends[0], ends[1]
			g.Edges = append(g.Edges, e)
		}
	}
	for v := range g.Nodes {
		if v%side+1 < side {
			join(v, v+1)
		}
		if v+side < g.Nodes {
			join(v, v+side)
		}
	}
	return g
}

// chain: all nodes one behind the other, each joined to the next at both limits of the costs, back, and to the one behind the next.
func chain(row *trial.Scatter) (g api.Graph, supply []int64) {
	const last = api.MaxNodes - 1
	g = api.Graph{Nodes: api.MaxNodes}
	for v := range last {
		g.Edges = append(g.Edges,
			api.Edge{From: v, To: v + 1, Cap: api.MaxLabel, Cost: api.MaxLabel},
			api.Edge{From: v, To: v + 1, Cap: 7, Cost: -api.MaxLabel},
			api.Edge{From: v + 1, To: v, Cap: 5, Cost: int64(row.Between(0, 9))},
			api.Edge{From: v, To: min(v+2, last), Cap: int64(row.Between(0, 900)), Cost: int64(row.Between(0, 9))})
	}
	supply = make([]int64, api.MaxNodes)
	supply[0], supply[last] = api.MaxLabel/2, -api.MaxLabel/2
	return g, supply
}

// pairs: half of the nodes have 1 each for some of the others.
func pairs(row *trial.Scatter) (g api.Graph, supply []int64) {
	const half = api.MaxNodes / 2
	g = api.Graph{Nodes: api.MaxNodes}
	supply = slices.Concat(slices.Repeat([]int64{1}, half), slices.Repeat([]int64{-1}, half))
	for i := range half {
		g.Edges = append(g.Edges, api.Edge{From: i, To: half + i, Cap: 1, Cost: api.MaxLabel})
		for range 7 {
			g.Edges = append(g.Edges, api.Edge{From: i, To: half + row.Below(half), Cap: 1, Cost: int64(row.Below(api.MaxLabel))})
		}
	}
	return g, supply
}

// TestP14_1FullGraphs: as many nodes and edges as there may be.
func TestP14_1FullGraphs(t *testing.T) {
	row := trial.NewScatter(143)
	whole := api.Graph{Nodes: 2}
	for i := range api.MaxEdges {
		whole.Edges = append(whole.Edges, api.Edge{From: i % 2, To: 1 - i%2, Cap: api.MaxLabel, Cost: -api.MaxLabel})
	}
	if cost, code := holdKinds(t, whole, []int64{0, 0}); cost != -api.MaxEdges*api.MaxLabel*api.MaxLabel || code != api.OK {
		t.Errorf("all edges between two nodes: %d, %v", cost, code)
	}
	for _, g := range []api.Graph{
		row.Graph(api.MaxNodes, api.MaxEdges), row.Graph(64, api.MaxEdges), grid(row, 32),
		row.Small(api.MaxNodes, api.MaxEdges, api.MaxLabel, -3, 3), row.Small(api.MaxNodes, api.MaxEdges, 2, -api.MaxLabel, api.MaxLabel),
		row.Small(api.MaxNodes, api.MaxEdges, api.MaxLabel, 0, 0), row.Small(1, api.MaxEdges, 9, -9, 9),
	} {
		holdKinds(t, g, make([]int64, g.Nodes))
		if _, code := holdKinds(t, g, somehow(row, g)); code != api.OK {
			t.Errorf("%d nodes: what can be met isn't: %v", g.Nodes, code)
		}
		holdKinds(t, g, anyhow(row, g.Nodes, api.MaxLabel))
	}
	g, supply := chain(row)
	if _, code := holdKinds(t, g, supply); code != api.OK {
		t.Errorf("a long chain: %v", code)
	}
	g, supply = pairs(row)
	if _, code := holdKinds(t, g, supply); code != api.OK {
		t.Errorf("pairs: %v", code)
	}
}

// ladder: a graph of 2k+2 nodes whose cheapest ways, one after the other, are about as many as 2^k, each dearer than the one ahead of it.
func ladder(k int) (g api.Graph, supply []int64) {
	from, to := 2*k, 2*k+1
	g = api.Graph{Nodes: 2*k + 2, Edges: []api.Edge{{From: 0, To: k, Cap: api.MaxLabel}}}
	supply = make([]int64, g.Nodes)
	for i := range k {
		most := []int64{1, 3}[min(i, 1)]
		if i > 1 {
			most = 5 << (i - 2)
		}
		g.Edges = append(g.Edges, api.Edge{From: from, To: i, Cap: most}, api.Edge{From: k + i, To: to, Cap: most})
		for j := range i {
			for _, ends := range [][2]int{{i, j}, {j, i}} {
				g.Edges = append(g.Edges, api.Edge{From: ends[0], To: k + ends[1], Cap: api.MaxLabel, Cost: 1<<i/2 - 1})
			}
		}
		supply[from] += most
		supply[to] -= most
	}
	return g, supply
}

// TestP1HardGraphs: where cheapest ways of 1 each, or circles taken as they come, would be very many.
func TestP1HardGraphs(t *testing.T) {
	g, supply := ladder(18)
	for _, less := range []int64{0, 1, 2} {
		supply[36] -= less
		supply[37] += less
		holdKinds(t, g, supply)
	}
	row := trial.NewScatter(231)
	for round := range 2000 {
		nodes := row.Between(10, 40)
		g := row.Small(nodes, row.Between(3*nodes, 6*nodes), 0, -5, 5)
		for i := range g.Edges {
			g.Edges[i].Cap = 1 << row.Below(21)
			if round%2 == 0 {
				g.Edges[i].Cost <<= row.Below(18)
			}
		}
		supply := make([]int64, nodes)
		supply[0] = 1 << row.Below(18)
		supply[nodes-1] = -supply[0]
		holdKinds(t, g, supply)
	}
}

// TestP2: neither graphs nor supplies are changed, the same call answers the same, and no answer shares memory with anything.
func TestP2(t *testing.T) {
	row := trial.NewScatter(145)
	for round := range 300 {
		plain := row.Small(6, row.Below(16), 6, -5, 5)
		edges, same := trial.Watched(plain.Edges, api.Edge{From: -7})
		g := api.Graph{Nodes: 6, Edges: edges}
		even := somehow(row, g)
		if round%3 == 0 {
			even = anyhow(row, 6, 2)
		}
		supply, alike := trial.Watched(even, -7)
		for _, kind := range kinds {
			first, _, firstSide, _ := mincost.Solve(g, supply, kind)
			second, cost, side, code := mincost.Solve(g, supply, kind)
			kept := [][]int64{slices.Clone(second.Supply), slices.Clone(second.On), slices.Clone(second.Pot)}
			keptSide := slices.Clone(side)
			trial.Spoil(first.Supply, -7)
			trial.Spoil(first.On, -7)
			trial.Spoil(first.Pot, -7)
			trial.Spoil(firstSide, true)
			third, again, thirdSide, code3 := mincost.Solve(g, supply, kind)
			for _, p := range []proof.Plan{second, third} {
				if !slices.Equal(p.Supply, kept[0]) || !slices.Equal(p.On, kept[1]) || !slices.Equal(p.Pot, kept[2]) {
					t.Fatal("a plan shares memory, or the same call answers another one")
				}
			}
			if !slices.Equal(side, keptSide) || !slices.Equal(thirdSide, keptSide) || again != cost || code3 != code || !same() || !alike() {
				t.Fatal("a side shares memory, an argument is changed, or the same call answers otherwise")
			}
		}
	}
}
