package vouch_test

import (
	"math"
	"slices"
	"testing"

	"compass/api"
	"compass/proof"
	"compass/trial"
	"compass/vouch"
)

// unevenOf: the nodes at which an odd number of ends of these edges lies.
func unevenOf(g api.Graph, edges []int) []int {
	var list []int
	for v := range g.Nodes {
		if endsAt(g, edges, v)%2 == 1 {
			list = append(list, v)
		}
	}
	return list
}

// doubledWords: P12.5, word by word.
func doubledWords(g api.Graph, twice []int, w vouch.Metric) (int64, api.Errno) {
	if slices.ContainsFunc(g.Edges, func(e api.Edge) bool { return e.Cost < 0 }) {
		return 0, api.ErrMinus
	}
	every := upTo(len(g.Edges))
	uneven := unevenOf(g, every)
	if !rises(twice, len(g.Edges)) || !slices.Equal(unevenOf(g, twice), uneven) {
		return 0, api.ErrProof
	}
	if len(w.Dist) != len(uneven) || !dualsFor(w.Duals, len(uneven)) || together(w.Duals) != 2*costOf(g, twice) {
		return 0, api.ErrProof
	}
	for i, row := range w.Dist {
		if !dualsFor(vouch.Duals{Y: row}, g.Nodes) || row[uneven[i]] != 0 {
			return 0, api.ErrProof
		}
		for _, e := range g.Edges {
			if max(row[e.From]-row[e.To], row[e.To]-row[e.From]) > e.Cost {
				return 0, api.ErrProof
			}
		}
		for j := i + 1; j < len(uneven); j++ {
			if weight(w.Duals, i, j) > 2*row[uneven[j]] {
				return 0, api.ErrProof
			}
		}
	}
	return costOf(g, every) + costOf(g, twice), api.OK
}

// apart: a distance where there is no way.
const apart = 1000

// distances: what the cheapest ways from a node cost, either way along the edges.
func distances(g api.Graph, from int) []int64 {
	dist := slices.Repeat([]int64{apart}, g.Nodes)
	dist[from] = 0
	for changed := true; changed; {
		changed = false
		for _, e := range g.Edges {
			for _, ends := range [][2]int{{e.From, e.To}, {e.To, e.From}} {
				if far := dist[ends[0]] + e.Cost; dist[ends[0]] < apart && far < dist[ends[1]] {
					dist[ends[1]], changed = far, true
				}
			}
		}
	}
	return dist
}

func tableOf(g api.Graph) [][]int64 {
	var table [][]int64
	for _, v := range unevenOf(g, upTo(len(g.Edges))) {
		table = append(table, distances(g, v))
	}
	return table
}

// doubledCase: a chain of four nodes, its middle edge there three times: its ends, 0 and 3, are uneven. And a node with a loop.
func doubledCase() (api.Graph, []int, vouch.Metric) {
	g := priced(5, [3]int{0, 1, 3}, [3]int{1, 2, 4}, [3]int{2, 1, 5}, [3]int{2, 3, 6}, [3]int{4, 4, 7}, [3]int{2, 1, 9})
	return g, []int{0, 1, 3}, vouch.Metric{Dist: [][]int64{{0, 3, 7, 13, 0}, {13, 10, 6, 0, -5}}, Duals: vouch.Duals{Y: []int64{13, 13}}}
}

func TestP12_5DoubledRefuses(t *testing.T) {
	const all = 3 + 4 + 5 + 6 + 7 + 9
	for _, c := range []struct {
		name   string
		change func(g *api.Graph, twice *[]int, w *vouch.Metric)
		cost   int64
		code   api.Errno
	}{
		{"nothing changed", func(g *api.Graph, twice *[]int, w *vouch.Metric) {}, all + 13, api.OK},
		{"weights spread otherwise", func(g *api.Graph, twice *[]int, w *vouch.Metric) { w.Duals.Y = []int64{30, -4} }, all + 13, api.OK},
		{"a loop that costs nothing, twice", func(g *api.Graph, twice *[]int, w *vouch.Metric) {
			g.Edges[4].Cost = 0
			*twice = []int{0, 1, 3, 4}
		}, all - 7 + 13, api.OK},
		{"a loop that costs something, twice", func(g *api.Graph, twice *[]int, w *vouch.Metric) { *twice = []int{0, 1, 3, 4} }, 0, api.ErrProof},
		{"a dearer way", func(g *api.Graph, twice *[]int, w *vouch.Metric) { *twice = []int{0, 2, 3} }, 0, api.ErrProof},
		{"none", func(g *api.Graph, twice *[]int, w *vouch.Metric) { *twice = nil }, 0, api.ErrProof},
		{"a way too short", func(g *api.Graph, twice *[]int, w *vouch.Metric) { *twice = []int{0, 1} }, 0, api.ErrProof},
		{"a node made uneven", func(g *api.Graph, twice *[]int, w *vouch.Metric) { *twice = []int{0, 1, 2, 3} }, 0, api.ErrProof},
		{"edges that don't rise", func(g *api.Graph, twice *[]int, w *vouch.Metric) { *twice = []int{1, 0, 3} }, 0, api.ErrProof},
		{"an edge twice in it", func(g *api.Graph, twice *[]int, w *vouch.Metric) { *twice = []int{0, 1, 1, 1, 3} }, 0, api.ErrProof},
		{"an edge below 0", func(g *api.Graph, twice *[]int, w *vouch.Metric) { *twice = []int{-1, 1, 3} }, 0, api.ErrProof},
		{"no such edge", func(g *api.Graph, twice *[]int, w *vouch.Metric) { *twice = []int{0, 1, 6} }, 0, api.ErrProof},
		{"no rows", func(g *api.Graph, twice *[]int, w *vouch.Metric) { w.Dist = nil }, 0, api.ErrProof},
		{"a row too few", func(g *api.Graph, twice *[]int, w *vouch.Metric) { w.Dist = w.Dist[:1] }, 0, api.ErrProof},
		{"a row too many", func(g *api.Graph, twice *[]int, w *vouch.Metric) { w.Dist = append(w.Dist, make([]int64, 5)) }, 0, api.ErrProof},
		{"a row too short", func(g *api.Graph, twice *[]int, w *vouch.Metric) { w.Dist[1] = w.Dist[1][:4] }, 0, api.ErrProof},
		{"a row too long", func(g *api.Graph, twice *[]int, w *vouch.Metric) { w.Dist[1] = append(w.Dist[1], 0) }, 0, api.ErrProof},
		{"an empty row", func(g *api.Graph, twice *[]int, w *vouch.Metric) { w.Dist[0] = nil }, 0, api.ErrProof},
		{"not 0 at its node", func(g *api.Graph, twice *[]int, w *vouch.Metric) { w.Dist[0] = []int64{1, 4, 8, 14, 0} }, 0, api.ErrProof},
		{"rows changed about", func(g *api.Graph, twice *[]int, w *vouch.Metric) { slices.Reverse(w.Dist) }, 0, api.ErrProof},
		{"too far along an edge", func(g *api.Graph, twice *[]int, w *vouch.Metric) { w.Dist[0] = []int64{0, 3, 7, 14, 0} }, 0, api.ErrProof},
		{"too far back along an edge", func(g *api.Graph, twice *[]int, w *vouch.Metric) { w.Dist[1] = []int64{14, 10, 6, 0, 0} }, 0, api.ErrProof},
		{"nearer than it is", func(g *api.Graph, twice *[]int, w *vouch.Metric) { w.Dist[0] = []int64{0, 3, 7, 12, 0} }, 0, api.ErrProof},
		{"the greater one's row says less", func(g *api.Graph, twice *[]int, w *vouch.Metric) { w.Dist[1] = make([]int64, 5) }, all + 13, api.OK},
		{"the lesser one's row says less", func(g *api.Graph, twice *[]int, w *vouch.Metric) { w.Dist[0] = make([]int64, 5) }, 0, api.ErrProof},
		{"weights too light", func(g *api.Graph, twice *[]int, w *vouch.Metric) { w.Duals.Y = []int64{13, 12} }, 0, api.ErrProof},
		{"weights too heavy", func(g *api.Graph, twice *[]int, w *vouch.Metric) { w.Duals.Y = []int64{13, 14} }, 0, api.ErrProof},
		{"no weights", func(g *api.Graph, twice *[]int, w *vouch.Metric) { w.Duals.Y = nil }, 0, api.ErrProof},
		{"a weight for each node", func(g *api.Graph, twice *[]int, w *vouch.Metric) { w.Duals.Y = []int64{13, 0, 0, 13, 0} }, 0, api.ErrProof},
		{"a set of no three uneven nodes", func(g *api.Graph, twice *[]int, w *vouch.Metric) {
			w.Duals.Sets = []vouch.Blossom{{Nodes: []int{0, 1, 2}}}
		}, 0, api.ErrProof},
		{"a cost below nothing", func(g *api.Graph, twice *[]int, w *vouch.Metric) { g.Edges[5].Cost = -1 }, 0, api.ErrMinus},
		{"a loop's cost below nothing, ahead of no proof", func(g *api.Graph, twice *[]int, w *vouch.Metric) {
			g.Edges[4].Cost = -1
			*twice, *w = []int{-1}, vouch.Metric{}
		}, 0, api.ErrMinus},
		{"nothing", func(g *api.Graph, twice *[]int, w *vouch.Metric) { *g, *twice, *w = api.Graph{}, nil, vouch.Metric{} }, 0, api.OK},
		{"no uneven node", func(g *api.Graph, twice *[]int, w *vouch.Metric) {
			*g, *twice, *w = priced(2, [3]int{0, 1, 4}, [3]int{0, 1, 5}), nil, vouch.Metric{}
		}, 9, api.OK},
		{"no uneven node, yet edges twice", func(g *api.Graph, twice *[]int, w *vouch.Metric) {
			*g, *twice, *w = priced(2, [3]int{0, 1, 4}, [3]int{0, 1, 5}), []int{0, 1}, vouch.Metric{}
		}, 0, api.ErrProof},
		{"no uneven node, yet a row", func(g *api.Graph, twice *[]int, w *vouch.Metric) {
			*g, *twice, *w = priced(2, [3]int{0, 1, 4}, [3]int{0, 1, 5}), nil, vouch.Metric{Dist: [][]int64{{0, 0}}}
		}, 0, api.ErrProof},
	} {
		g, twice, w := doubledCase()
		c.change(&g, &twice, &w)
		if cost, code := vouch.Doubled(g, twice, w); cost != c.cost || code != c.code {
			t.Errorf("%s: %d, %v; it should be %d, %v", c.name, cost, code, c.cost, c.code)
		}
	}
}

// TestP12_5DoubledAllSmall: just the cheapest edges that make all nodes even are taken, with the distances and some weights.
func TestP12_5DoubledAllSmall(t *testing.T) {
	row := trial.NewScatter(91)
	for range 60 {
		g := row.Small(row.Between(1, 4), row.Below(6), 0, 0, 2)
		every := upTo(len(g.Edges))
		uneven, table := unevenOf(g, every), tableOf(g)
		best := int64(math.MaxInt64)
		for twice := range trial.Subsets(len(g.Edges)) {
			if slices.Equal(unevenOf(g, twice), uneven) {
				best = min(best, costOf(g, twice))
			}
		}
		for twice := range trial.Subsets(len(g.Edges)) {
			even, proved := slices.Equal(unevenOf(g, twice), uneven), false
			for y := range trial.Lists[int64](len(uneven), -2, 4) {
				w := vouch.Metric{Dist: table, Duals: vouch.Duals{Y: y}}
				cost, code := vouch.Doubled(g, twice, w)
				if code == api.OK && cost == costOf(g, every)+best {
					proved = true
				} else if code != api.ErrProof || cost != 0 {
					t.Fatalf("%v: Doubled of %v, %v: %d, %v; the least is %d", g, twice, w, cost, code, best)
				}
			}
			if proved != (even && costOf(g, twice) == best) {
				t.Fatalf("%v: %v is proved cheapest: %v; the least is %d", g, twice, proved, best)
			}
		}
	}
}

// eachJoined: a graph of an even number of nodes, each two joined, so that all are uneven; the edges are the distances, as none costs as much as two others; and duals with sets prove which are cheapest.
func eachJoined(row *trial.Scatter, nodes, sets int) (api.Graph, []int, vouch.Metric) {
	d, pairs := scatteredDuals(row, nodes, sets, 10000, 500, 20)
	mate := make([]int, nodes)
	for k := range pairs {
		mate[pairs[k]] = pairs[k^1]
	}
	g := api.Graph{Nodes: nodes}
	table := make([][]int64, nodes)
	for v := range table {
		table[v] = make([]int64, nodes)
	}
	var twice []int
	for v := range nodes {
		for u := range v {
			cost := weight(d, u, v) / 2
			if mate[u] == v {
				twice = append(twice, len(g.Edges))
			} else {
				cost += int64(row.Below(2) * row.Below(40))
			}
			g.Edges = append(g.Edges, api.Edge{From: v, To: u, Cost: cost})
			table[u][v], table[v][u] = cost, cost
		}
	}
	return g, twice, vouch.Metric{Dist: table, Duals: d}
}

// TestP12_5DoubledScattered: proofs with many sets are taken, and what is changed about them is told as the words do.
func TestP12_5DoubledScattered(t *testing.T) {
	row := trial.NewScatter(92)
	refused := 0
	for round := range 60 {
		nodes := 2 * row.Between(2, 9)
		g, twice, w := eachJoined(row, nodes, row.Below(nodes+1))
		want := costOf(g, upTo(len(g.Edges))) + costOf(g, twice)
		if cost, code := vouch.Doubled(g, twice, w); cost != want || code != api.OK {
			t.Fatalf("round %d: %v, %v: %d, %v; it should be %d", round, g, w, cost, code, want)
		}
		for range 40 {
			bad := vouch.Metric{Dist: w.Dist, Duals: spoilt(row, w.Duals)}
			if row.Below(3) == 0 {
				bad = vouch.Metric{Dist: slices.Clone(w.Dist), Duals: w.Duals}
				v := row.Below(nodes)
				bad.Dist[v] = slices.Clone(bad.Dist[v])
				bad.Dist[v][row.Below(nodes)] += int64(row.Between(-1, 1))
			}
			cost, code := vouch.Doubled(g, twice, bad)
			if want, wantCode := doubledWords(g, twice, bad); cost != want || code != wantCode {
				t.Fatalf("round %d: %v, %v: %d, %v; it should be %d, %v", round, g, bad, cost, code, want, wantCode)
			}
			if code != api.OK {
				refused++
			}
		}
	}
	if refused < 800 {
		t.Errorf("only %d proofs were refused", refused)
	}
}

func TestP12_5DoubledLimits(t *testing.T) {
	for x, taken := range limits() {
		want := api.ErrProof
		if taken {
			want = api.OK
		}
		g, twice, w := doubledCase()
		w.Dist[0][4] = x // node 4 lies in a part of its own
		if _, code := vouch.Doubled(g, twice, w); code != want {
			t.Errorf("a distance of %d: %v", x, code)
		}
		g, twice, w = doubledCase()
		w.Duals.Y = []int64{x, 26 - x}
		if x > proof.MaxPot || 26-x > proof.MaxPot || x < -proof.MaxPot {
			want = api.ErrProof
		}
		if _, code := vouch.Doubled(g, twice, w); code != want {
			t.Errorf("a weight of %d: %v", x, code)
		}
	}
}

// TestP12_5DoubledFull: as many nodes as there may be, all uneven, in pairs that are far from each other, and as many sets.
func TestP12_5DoubledFull(t *testing.T) {
	const n = api.MaxNodes
	g := api.Graph{Nodes: n}
	w := vouch.Metric{Duals: vouch.Duals{Y: slices.Repeat([]int64{api.MaxLabel}, n)}}
	for v := range n {
		row := slices.Repeat([]int64{proof.MaxPot}, n)
		row[v], row[v^1] = 0, api.MaxLabel
		w.Dist = append(w.Dist, row)
		w.Duals.Sets = append(w.Duals.Sets, vouch.Blossom{Nodes: upTo(n - 1)})
		if v%2 == 0 {
			g.Edges = append(g.Edges, api.Edge{From: v + 1, To: v, Cost: api.MaxLabel})
		}
	}
	if cost, code := vouch.Doubled(g, upTo(n/2), w); cost != n*api.MaxLabel || code != api.OK {
		t.Errorf("%d, %v", cost, code)
	}
	for k := range w.Duals.Sets {
		w.Duals.Sets[k].Z = proof.MaxPot
	}
	if cost, code := vouch.Doubled(g, upTo(n/2), w); cost != 0 || code != api.ErrProof {
		t.Errorf("with the heaviest sets: %d, %v", cost, code)
	}
	// 90 nodes have nearly as many edges as there may be.
	full, twice, proved := eachJoined(trial.NewScatter(93), 90, 90)
	if cost, code := vouch.Doubled(full, twice, proved); cost != costOf(full, upTo(len(full.Edges)))+costOf(full, twice) || code != api.OK {
		t.Errorf("each two joined: %d, %v", cost, code)
	}
}
