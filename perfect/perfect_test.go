package perfect_test

import (
	"math"
	"math/bits"
	"slices"
	"testing"

	"compass/api"
	"compass/perfect"
	"compass/proof"
	"compass/trial"
	"compass/vouch"
)

// edge: From, To and Cost.
type edge [3]int

func graphOf(nodes int, edges ...edge) api.Graph {
	g := api.Graph{Nodes: nodes}
	for _, e := range edges {
		g.Edges = append(g.Edges, api.Edge{From: e[0], To: e[1], Cost: int64(e[2])})
	}
	return g
}

// square: the chapter's example.
func square() api.Graph {
	return graphOf(4, edge{0, 1, 5}, edge{1, 2, 1}, edge{2, 3, 5}, edge{3, 0, 2})
}

// far is more than any matching costs.
const far = math.MaxInt64 / 4

// tableOf: the least cost of an edge between each two; far, if there is none.
func tableOf(g api.Graph) [][]int64 {
	table := make([][]int64, g.Nodes)
	for v := range table {
		table[v] = slices.Repeat([]int64{far}, g.Nodes)
	}
	for _, e := range g.Edges {
		table[e.From][e.To] = min(table[e.From][e.To], e.Cost)
		table[e.To][e.From] = min(table[e.To][e.From], e.Cost)
	}
	return table
}

// least: what a matching that takes all costs at least, by the numbers above the table's diagonal; far, if there is none. It is found by trying all sets one after the other.
func least(table [][]int64) int64 {
	best := slices.Repeat([]int64{far}, 1<<len(table))
	best[0] = 0
	for set := 1; set < len(best); set++ {
		v := bits.TrailingZeros(uint(set))
		rest := set &^ (1 << v)
		for with := rest; with != 0; with &= with - 1 {
			u := bits.TrailingZeros(uint(with))
			if cost, more := table[v][u], best[rest&^(1<<u)]; cost < far && more < far {
				best[set] = min(best[set], cost+more)
			}
		}
	}
	return best[len(best)-1]
}

func rises(list []int, n int) bool {
	for i, x := range list {
		if x < 0 || x >= n || i > 0 && x <= list[i-1] {
			return false
		}
	}
	return true
}

func isWeight(x int64) bool { return x >= -proof.MaxPot && x <= proof.MaxPot }

// wantDuals: duals by the document's words, for so many nodes, of a matching that costs so much; each pair's cost stands in the table above the diagonal, far if nothing joins it.
func wantDuals(t *testing.T, table [][]int64, d vouch.Duals, cost int64) {
	t.Helper()
	nodes := len(table)
	if len(d.Y) != nodes || len(d.Sets) > nodes {
		t.Fatalf("%d weights and %d sets of %d nodes", len(d.Y), len(d.Sets), nodes)
	}
	var sum int64
	weights := make([][]int64, nodes) // of each pair
	for v, y := range d.Y {
		sum += y
		weights[v] = make([]int64, nodes)
		for u := range nodes {
			weights[v][u] = y + d.Y[u]
		}
		if !isWeight(y) {
			t.Fatalf("weight %d of node %d", y, v)
		}
	}
	for _, set := range d.Sets {
		sum -= set.Z * int64(len(set.Nodes)/2)
		if !rises(set.Nodes, nodes) || len(set.Nodes) < 3 || len(set.Nodes)%2 == 0 || set.Z < 0 || !isWeight(set.Z) {
			t.Fatalf("the set %v", set)
		}
		for _, v := range set.Nodes {
			for _, u := range set.Nodes {
				weights[v][u] -= set.Z
			}
		}
	}
	for v, row := range table {
		for u := v + 1; u < nodes; u++ {
			if weights[v][u] > 2*row[u] {
				t.Fatalf("%d and %d weigh %d, but cost %d", v, u, weights[v][u], row[u])
			}
		}
	}
	if sum != 2*cost {
		t.Fatalf("all weigh %d, but the cost is %d", sum, cost)
	}
}

// holdProof: the answer is right and proved, be it that there is a matching or that there is none.
func holdProof(t *testing.T, g api.Graph) (int64, api.Errno) {
	t.Helper()
	match, d, set, cost, code := perfect.Solve(g)
	if code == api.ErrNoWay {
		if len(match) != 0 || len(d.Y) != 0 || len(d.Sets) != 0 || cost != 0 || !rises(set, g.Nodes) {
			t.Fatalf("%v: no way, but %v, %v, %d, %v", g, match, d, cost, set)
		}
		if code := vouch.NoPerfect(g, set); code != api.OK {
			t.Fatalf("%v: that there is none isn't proved by %v: %v", g, set, code)
		}
		return far, code
	}
	if code != api.OK || len(set) != 0 || !rises(match, len(g.Edges)) {
		t.Fatalf("%v: %v, %v, %v", g, match, set, code)
	}
	if proved, code := vouch.Cheapest(g, match, d); proved != cost || code != api.OK {
		t.Fatalf("%v: %v of cost %d isn't proved by %v: %d, %v", g, match, cost, d, proved, code)
	}
	return cost, code
}

// holdWords: likewise, and the cost is the least.
func holdWords(t *testing.T, g api.Graph) {
	t.Helper()
	cost, _ := holdProof(t, g)
	if want := least(tableOf(g)); cost != want {
		t.Fatalf("%v: cost %d; it should be %d", g, cost, want)
	}
	_, d, _, cost, code := perfect.Solve(g)
	if code == api.OK {
		wantDuals(t, tableOf(g), d, cost)
	}
}

func TestP18TheChaptersExamples(t *testing.T) {
	match, d, set, cost, code := perfect.Solve(square())
	if !slices.Equal(match, []int{1, 3}) || len(d.Y) != 4 || len(set) != 0 || cost != 3 || code != api.OK {
		t.Errorf("the square: %v, %v, %v, %d, %v", match, d, set, cost, code)
	}
	if _, _, set, _, code := perfect.Solve(graphOf(1)); len(set) != 0 || code != api.ErrNoWay {
		t.Errorf("one node alone: %v, %v", set, code)
	}
	mate, d, total, code := perfect.Dense([][]int64{{0, 4}, {4, 0}})
	if !slices.Equal(mate, []int{1, 0}) || len(d.Y) != 2 || total != 4 || code != api.OK {
		t.Errorf("two things: %v, %v, %d, %v", mate, d, total, code)
	}
	if perfect.MaxDist != 1<<31 {
		t.Error("MaxDist isn't the document's")
	}
	holdWords(t, square())
	holdDense(t, [][]int64{{0, 4}, {4, 0}})
}

func TestP18_1Solve(t *testing.T) {
	const most = api.MaxLabel
	for _, c := range []struct {
		name string
		g    api.Graph
		want int64
	}{
		{"nothing", graphOf(0), 0},
		{"one edge", graphOf(2, edge{1, 0, 5}), 5},
		{"the greatest cost", graphOf(2, edge{0, 1, most}), most},
		{"the least cost", graphOf(2, edge{0, 1, -most}), -most},
		{"an odd cost below 0", graphOf(2, edge{0, 1, -7}), -7},
		{"of several edges between two the cheapest", graphOf(2, edge{0, 1, 3}, edge{1, 0, -8}, edge{0, 1, 9}, edge{0, 1, -5}), -8},
		{"loops don't count", graphOf(2, edge{0, 0, -9}, edge{0, 1, 3}, edge{1, 1, -9}), 3},
		{"a dear edge must be", graphOf(4, edge{0, 1, most}, edge{1, 2, -most}, edge{2, 3, most}), 2 * most},
		{"a dear edge needn't be", graphOf(4, edge{0, 1, 9}, edge{1, 2, 1}, edge{2, 3, 9}, edge{0, 3, 9}), 10},
		{"two parts", graphOf(6, edge{0, 1, 3}, edge{2, 3, 4}, edge{3, 4, 1}, edge{4, 5, 4}, edge{5, 2, 8}), 3 + 8},
		{"two triangles that an edge joins", graphOf(6, edge{0, 1, 1}, edge{1, 2, 1}, edge{2, 0, 1}, edge{3, 4, 1}, edge{4, 5, 1}, edge{5, 3, 1}, edge{2, 3, 50}), 52},
		{"two triangles, the dear edge elsewhere", graphOf(6, edge{0, 1, 7}, edge{1, 2, 1}, edge{2, 0, 1}, edge{3, 4, 1}, edge{4, 5, 9}, edge{5, 3, 1}, edge{2, 3, 50}, edge{0, 4, 52}), 1 + 52 + 1},
		{"a circle of five and one more", graphOf(6, edge{0, 1, 2}, edge{1, 2, 2}, edge{2, 3, 2}, edge{3, 4, 2}, edge{4, 0, 2}, edge{0, 5, 9}, edge{2, 5, 8}), 12},
		{"all with all, at the same cost", graphOf(4, edge{0, 1, 7}, edge{0, 2, 7}, edge{0, 3, 7}, edge{1, 2, 7}, edge{1, 3, 7}, edge{2, 3, 7}), 14},
		{"an odd number of nodes", graphOf(3, edge{0, 1, 1}, edge{1, 2, 1}, edge{2, 0, 1}), far},
		{"no edges", graphOf(2), far},
		{"loops alone", graphOf(2, edge{0, 0, 1}, edge{1, 1, 1}), far},
		{"a star", graphOf(4, edge{0, 1, 1}, edge{0, 2, 1}, edge{3, 0, 1}), far},
		{"two odd parts", graphOf(6, edge{0, 1, 1}, edge{1, 2, 1}, edge{2, 0, 1}, edge{3, 4, 1}, edge{4, 5, 1}, edge{5, 3, 1}), far},
	} {
		if got, _ := holdProof(t, c.g); got != c.want {
			t.Errorf("%s: %d; it should be %d", c.name, got, c.want)
		}
		holdWords(t, c.g)
	}
}

// TestP18AllSmallGraphs: each graph of so many nodes and edges, loops and edges side by side among them, with each row of a few costs; and each one of more nodes without such, with costs that go round.
func TestP18AllSmallGraphs(t *testing.T) {
	for _, c := range [][2]int{{1, 1}, {2, 3}, {3, 2}, {4, 3}} {
		for g := range trial.AllGraphs(c[0], c[1]) {
			for costs := range trial.Lists[int64](c[1], -1, 1) {
				for i, cost := range costs {
					g.Edges[i].Cost = cost
				}
				holdWords(t, g)
			}
		}
	}
	for g := range trial.SimpleGraphs(4) {
		for costs := range trial.Lists[int64](len(g.Edges), 0, 3) {
			for i, cost := range costs {
				g.Edges[i].Cost = cost
			}
			holdWords(t, g)
		}
	}
	for g := range trial.SimpleGraphs(6) {
		for round := range 2 {
			for i := range g.Edges {
				g.Edges[i].Cost = []int64{3, 1, 4, 1, 5, 9, 2}[(i+3*round)%7]
			}
			holdWords(t, g)
		}
	}
}

// TestP18AllSmallTables: all of six nodes joined, by each choice of two costs.
func TestP18AllSmallTables(t *testing.T) {
	for side := range trial.Sides(15) {
		at := -1
		holdDense(t, things(6, func(u, v int) int64 {
			at++
			if side[at] {
				return 3
			}
			return 0
		}))
	}
}

func TestP18_1ScatteredGraphs(t *testing.T) {
	row := trial.NewScatter(181)
	for round := range 8000 {
		nodes := 2 * row.Between(2, 5)
		most := []int{1, 4, 30, api.MaxLabel}[round%4]
		holdWords(t, row.Small(nodes, row.Between(nodes, 3*nodes), 1, []int{-most, 0, most - 1}[round/4%3], most))
	}
	for round := range 1500 {
		nodes := row.Between(2, 90)
		most := []int{1, 9, 400, api.MaxLabel}[round%4]
		g := row.Small(nodes, row.Between(nodes, 4*nodes), 1, []int{-most, 0, most / 2}[round/4%3], most)
		for v := range nodes {
			g.Edges[v].From, g.Edges[v].To = v, (v+1)%nodes
		}
		if _, code := holdProof(t, g); (code == api.OK) != (nodes%2 == 0) {
			t.Fatalf("%v: %v", g, code)
		}
	}
	for range 500 {
		nodes := row.Between(2, 60)
		holdProof(t, row.Small(nodes, row.Below(2*nodes), 1, -9, 9))
	}
}

// TestP18_1CapsDontMatter: nor do they change anything.
func TestP18_1CapsDontMatter(t *testing.T) {
	row := trial.NewScatter(182)
	for range 300 {
		g := row.Small(8, 20, 0, -9, 9)
		wide := api.Graph{Nodes: 8, Edges: slices.Clone(g.Edges)}
		for i := range wide.Edges {
			wide.Edges[i].Cap = int64(row.Between(0, api.MaxLabel))
		}
		match, d, set, cost, code := perfect.Solve(g)
		other, weights, nodes, sum, fault := perfect.Solve(wide)
		if !slices.Equal(match, other) || !sameDuals(d, weights) || !slices.Equal(set, nodes) || cost != sum || code != fault {
			t.Fatalf("%v: %v, %v, %v; with other capacities %v, %v, %v", g, match, d, set, other, weights, nodes)
		}
	}
}

func sameDuals(a, b vouch.Duals) bool {
	return slices.Equal(a.Y, b.Y) && slices.EqualFunc(a.Sets, b.Sets, func(a, b vouch.Blossom) bool {
		return a.Z == b.Z && slices.Equal(a.Nodes, b.Nodes)
	})
}

func TestP18_1Refuses(t *testing.T) {
	for _, c := range trial.WrongGraphs() {
		match, d, set, cost, code := perfect.Solve(c.Graph)
		if len(match) != 0 || len(d.Y) != 0 || len(d.Sets) != 0 || len(set) != 0 || cost != 0 || code != c.Fault.Code {
			t.Errorf("%v: %v, %v, %v, %d, %v; it should be %v", c.Graph, match, d, set, cost, code, c.Fault.Code)
		}
	}
}

// TestP18_1FullGraphs: as many nodes and edges as there may be.
func TestP18_1FullGraphs(t *testing.T) {
	row := trial.NewScatter(183)
	const n = api.MaxNodes
	for round := range 12 {
		most := []int{1, 50, api.MaxLabel}[round%3]
		g := row.Small(n, []int{api.MaxEdges, 1600}[round%2], 1, -most, most)
		for v := range n { // a circle through all
			g.Edges[v].From, g.Edges[v].To = v, (v+1)%n
			if round >= 6 {
				g.Edges[v].Cost = int64(most)
			}
		}
		if _, code := holdProof(t, g); code != api.OK {
			t.Errorf("round %d: %v", round, code)
		}
		holdProof(t, row.Small(n, api.MaxEdges, 1, -most, most))
	}
	for _, reach := range []int{2, 3, 4} {
		for _, cost := range []func(u, v int) int{
			func(u, v int) int { return u },
			func(u, v int) int { return u * v },
			func(u, v int) int { return -u * v },
			func(u, v int) int { return (u*u + 7*v) % 31 },
			func(u, v int) int { return (v - u) * api.MaxLabel / 4 },
		} {
			g := api.Graph{Nodes: n}
			for u := range n {
				for v := u + 1; v <= min(u+reach, n-1); v++ {
					g.Edges = append(g.Edges, api.Edge{From: u, To: v, Cost: int64(cost(u, v))})
				}
			}
			if _, code := holdProof(t, g); code != api.OK {
				t.Errorf("a band: %v", code)
			}
		}
	}
	const dear = api.MaxLabel
	line := api.Graph{Nodes: n} // only weights that differ much prove that there is no other way
	for v := range n - 1 {
		line.Edges = append(line.Edges, api.Edge{From: v + 1, To: v, Cost: int64(1-2*(v%2)) * dear})
	}
	if cost, _ := holdProof(t, line); cost != n/2*dear {
		t.Errorf("a line: %d", cost)
	}
	whole := api.Graph{Nodes: 90}
	for v := range 90 {
		for u := range v {
			whole.Edges = append(whole.Edges, api.Edge{From: u, To: v, Cost: int64(u) * int64(v)})
		}
	}
	if cost, _ := holdProof(t, whole); cost != 58740 { // 0 with 89, 1 with 88, ..
		t.Errorf("all with all: %d", cost)
	}
}

// holdDense: the answer is right and proved; the distance together is answered here.
func holdDense(t *testing.T, table [][]int64) int64 {
	t.Helper()
	mate, d, total, code := perfect.Dense(table)
	if code != api.OK || len(mate) != len(table) {
		t.Fatalf("%v: %v, %v", table, mate, code)
	}
	var sum int64
	for u, v := range mate {
		if v < 0 || v >= len(mate) || v == u || mate[v] != u {
			t.Fatalf("%v: %v matches %d with %d", table, mate, u, v)
		}
		if u < v {
			sum += table[u][v]
		}
	}
	if sum != total {
		t.Fatalf("%v: %v is %d together, not %d", table, mate, sum, total)
	}
	wantDuals(t, table, d, total)
	if len(table) <= 8 {
		if want := least(table); total != want {
			t.Fatalf("%v: %d together; it should be %d", table, total, want)
		}
	}
	return total
}

// things: a table of so many, by the distance that is told of each two; where nothing is looked at stands what would be seen.
func things(n int, dist func(u, v int) int64) [][]int64 {
	table := make([][]int64, n)
	for u := range table {
		table[u] = slices.Repeat([]int64{math.MinInt64 + int64(u)}, n)
		for v := u + 1; v < n; v++ {
			table[u][v] = dist(u, v)
		}
	}
	return table
}

func TestP18_2Dense(t *testing.T) {
	const most = perfect.MaxDist
	for _, c := range []struct {
		name string
		list [][]int64
		want int64
	}{
		{"nothing", nil, 0},
		{"no rows", [][]int64{}, 0},
		{"the greatest distance", [][]int64{{0, most}, {0, 0}}, most},
		{"the least distance", [][]int64{{0, -most}, {0, 0}}, -most},
		{"only what is above the diagonal counts", [][]int64{{9, 4}, {math.MinInt64, math.MaxInt64}}, 4},
		{"four at odd distances", things(4, func(u, v int) int64 { return 7 }), 14},
		{"four, two far off", things(4, func(u, v int) int64 { return int64(v * v) }), 1 + 9},
		{"all as far as may be", things(6, func(u, v int) int64 { return most }), 3 * most},
		{"all as near as may be", things(6, func(u, v int) int64 { return -most }), -3 * most},
		{"two triangles far from one another", things(6, func(u, v int) int64 { return int64(v/3-u/3) * most }), most},
		{"two triangles nearer than may be to one another", things(6, func(u, v int) int64 { return int64(1-2*(v/3-u/3)) * most }), -3 * most},
	} {
		if got := holdDense(t, c.list); got != c.want {
			t.Errorf("%s: %d; it should be %d", c.name, got, c.want)
		}
	}
}

func TestP18_2ScatteredTables(t *testing.T) {
	row := trial.NewScatter(184)
	for round := range 4000 {
		most := []int{1, 5, 100, perfect.MaxDist}[round%4]
		least := []int{-most, 0, most - 1, most / 2}[round/4%4]
		holdDense(t, things(2*row.Below(5), func(u, v int) int64 { return int64(row.Between(least, most)) }))
	}
	for round := range 300 {
		most := []int{1, 7, 1000, perfect.MaxDist}[round%4]
		least := []int{-most, 0, most / 2}[round/4%3]
		holdDense(t, things(2*row.Below(40), func(u, v int) int64 { return int64(row.Between(least, most)) }))
	}
}

// TestP18DenseAndSolveAgree: where both can be asked.
func TestP18DenseAndSolveAgree(t *testing.T) {
	row := trial.NewScatter(185)
	for round := range 200 {
		most := []int{2, 60, api.MaxLabel}[round%3]
		table := things(2*row.Below(20), func(u, v int) int64 { return int64(row.Between(-most, most)) })
		g := api.Graph{Nodes: len(table)}
		for u, line := range table {
			for v := u + 1; v < len(line); v++ {
				g.Edges = append(g.Edges, api.Edge{From: v, To: u, Cost: line[v]})
			}
		}
		cost, _ := holdProof(t, g)
		if total := holdDense(t, table); total != cost {
			t.Fatalf("%v: Dense answers %d, Solve %d", table, total, cost)
		}
	}
}

// TestP18_2Refuses: in the order of the errors.
func TestP18_2Refuses(t *testing.T) {
	flat := func(n int) [][]int64 { return things(n, func(u, v int) int64 { return 1 }) }
	with := func(table [][]int64, u, v int, x int64) [][]int64 { table[u][v] = x; return table }
	short := func(table [][]int64, u, length int) [][]int64 { table[u] = make([]int64, length); return table }
	for _, c := range []struct {
		name  string
		table [][]int64
		want  api.Errno
	}{
		{"too many", flat(api.MaxNodes + 1), api.ErrSize},
		{"too many, without rows", make([][]int64, api.MaxNodes+2), api.ErrSize},
		{"a short row", short(flat(4), 3, 3), api.ErrSize},
		{"a long row", short(flat(4), 0, 5), api.ErrSize},
		{"no row", short(flat(2), 1, 0), api.ErrSize},
		{"a row of one thing", [][]int64{{1, 2}}, api.ErrSize},
		{"rows alone", make([][]int64, 2), api.ErrSize},
		{"a short row behind a wrong distance", short(with(flat(4), 0, 1, math.MaxInt64), 3, 3), api.ErrSize},
		{"a short row of an odd number", short(flat(3), 1, 2), api.ErrSize},
		{"too far", with(flat(4), 2, 3, perfect.MaxDist+1), api.ErrLabel},
		{"too near", with(flat(4), 0, 1, -perfect.MaxDist-1), api.ErrLabel},
		{"farther than all", with(flat(4), 0, 3, math.MaxInt64), api.ErrLabel},
		{"nearer than all", with(flat(4), 1, 2, math.MinInt64), api.ErrLabel},
		{"too far, of an odd number", with(flat(3), 0, 2, perfect.MaxDist+1), api.ErrLabel},
		{"one", flat(1), api.ErrOdd},
		{"three", flat(3), api.ErrOdd},
		{"one less than all", flat(api.MaxNodes - 1), api.ErrOdd},
	} {
		mate, d, total, code := perfect.Dense(c.table)
		if len(mate) != 0 || len(d.Y) != 0 || len(d.Sets) != 0 || total != 0 || code != c.want {
			t.Errorf("%s: %v, %v, %d, %v; it should be %v", c.name, mate, d, total, code, c.want)
		}
	}
}

// powers: two of so many things are as far apart as the least power of base is great by which both are divided alike.
func powers(base int) func(u, v int) int64 {
	return func(u, v int) int64 {
		dist := int64(1)
		for ; u != v; u, v = u/base, v/base {
			dist *= int64(base)
		}
		return dist
	}
}

// TestP18_2FullTables: as many things as there may be, as far apart as may be; and less where much is shrunk and opened again.
func TestP18_2FullTables(t *testing.T) {
	row := trial.NewScatter(186)
	const n, most = api.MaxNodes, perfect.MaxDist
	place := make([][2]int64, n)
	for v := range place {
		place[v] = [2]int64{int64(row.Below(100)) * 1000, int64(row.Below(100000))}
	}
	for _, dist := range []func(u, v int) int64{
		func(u, v int) int64 { return int64(row.Between(-most, most)) },
		func(u, v int) int64 { return int64(row.Between(0, 9)) },
		func(u, v int) int64 {
			return max(place[u][0]-place[v][0], place[v][0]-place[u][0]) + max(place[u][1]-place[v][1], place[v][1]-place[u][1])
		},
		func(u, v int) int64 { return most - int64((u*v)%5) },
		func(u, v int) int64 { return int64(1-2*((u/3+2)/(v/3+2))) * most },
		powers(3), powers(5), powers(11),
	} {
		holdDense(t, things(n, dist))
	}
	for _, dist := range []func(u, v int) int64{
		func(u, v int) int64 { return int64(u * v) },
		func(u, v int) int64 { return int64(min(u, v)) },
		func(u, v int) int64 { return -int64((v - u) * (v - u)) },
		func(u, v int) int64 { return int64(u*v) * most / (n * n) },
	} {
		holdDense(t, things(n/4, dist))
	}
	if got := holdDense(t, things(n, func(u, v int) int64 { return most })); got != n/2*most {
		t.Errorf("all as far as may be: %d", got)
	}
	if got := holdDense(t, things(n, func(u, v int) int64 { return int64(v - u) })); got != n/2 {
		t.Errorf("things in a row: %d", got)
	}
}

// TestP2: nothing that is handed in is changed, the same call answers the same, and no answer shares memory with anything.
func TestP2(t *testing.T) {
	row := trial.NewScatter(187)
	for range 300 {
		edges, same := trial.Watched(row.Small(10, 24, 3, -5, 5).Edges, api.Edge{From: -7})
		g := api.Graph{Nodes: 10, Edges: edges}
		match, d, set, cost, code := perfect.Solve(g)
		again, weights, nodes, _, _ := perfect.Solve(g)
		kept, keptSet := slices.Clone(match), slices.Clone(set)
		wantApart(t, d)
		trial.Spoil(match, -7)
		trial.Spoil(set, -7)
		third, thirdWeights, thirdSet, sum, fault := perfect.Solve(g)
		if !slices.Equal(again, kept) || !slices.Equal(third, kept) || !slices.Equal(nodes, keptSet) || !slices.Equal(thirdSet, keptSet) {
			t.Fatal("an answer shares memory, or the same call answers otherwise")
		}
		if !sameDuals(weights, thirdWeights) || sum != cost || fault != code || !same() {
			t.Fatal("the graph is changed, or the same call answers otherwise")
		}
	}
	for range 100 {
		table := things(12, func(u, v int) int64 { return int64(row.Between(0, 5)) })
		rows, same := make([][]int64, len(table)), make([]func() bool, len(table))
		for v, line := range table {
			rows[v], same[v] = trial.Watched(line, -7)
		}
		mate, d, _, _ := perfect.Dense(rows)
		again, weights, _, _ := perfect.Dense(rows)
		kept := slices.Clone(mate)
		wantApart(t, d)
		trial.Spoil(mate, -7)
		third, thirdWeights, _, _ := perfect.Dense(rows)
		if !slices.Equal(again, kept) || !slices.Equal(third, kept) || !sameDuals(weights, thirdWeights) {
			t.Fatal("an answer shares memory, or the same call answers otherwise")
		}
		for v := range rows {
			if !same[v]() {
				t.Fatal("the table is changed")
			}
		}
	}
}

// wantApart: no list of the duals shares memory with another one. They are spoilt.
func wantApart(t *testing.T, d vouch.Duals) {
	t.Helper()
	kept := make([][]int, len(d.Sets))
	for i, set := range d.Sets {
		kept[i] = slices.Clone(set.Nodes)
	}
	trial.Spoil(d.Y, -7)
	for i, set := range d.Sets {
		if !slices.Equal(set.Nodes, kept[i]) {
			t.Fatal("the lists of an answer share memory")
		}
		trial.Spoil(set.Nodes, -7)
	}
}
