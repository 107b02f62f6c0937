package vouch_test

import (
	"math"
	"slices"
	"testing"

	"compass/api"
	"compass/proof"
	"compass/trial"
	"compass/vouch"
)

// weight: what P12.3 says of two nodes, word by word.
func weight(d vouch.Duals, u, v int) int64 {
	sum := d.Y[u] + d.Y[v]
	for _, set := range d.Sets {
		if slices.Contains(set.Nodes, u) && slices.Contains(set.Nodes, v) {
			sum -= set.Z
		}
	}
	return sum
}

// dualsFor: are they duals for so many nodes?
func dualsFor(d vouch.Duals, nodes int) bool {
	if len(d.Y) != nodes || len(d.Sets) > nodes {
		return false
	}
	for _, y := range d.Y {
		if y < -proof.MaxPot || y > proof.MaxPot {
			return false
		}
	}
	for _, set := range d.Sets {
		if !rises(set.Nodes, nodes) || len(set.Nodes) < 3 || len(set.Nodes)%2 == 0 || set.Z < 0 || set.Z > proof.MaxPot {
			return false
		}
	}
	return true
}

// together: all Y, less for each set Z times half its number of nodes.
func together(d vouch.Duals) int64 {
	var sum int64
	for _, y := range d.Y {
		sum += y
	}
	for _, set := range d.Sets {
		sum -= set.Z * int64((len(set.Nodes)-1)/2)
	}
	return sum
}

// cheapestWords: P12.3, word by word.
func cheapestWords(g api.Graph, m []int, d vouch.Duals) (int64, api.Errno) {
	if !matches(g, m) || 2*len(m) != g.Nodes || !dualsFor(d, g.Nodes) {
		return 0, api.ErrProof
	}
	for _, e := range g.Edges {
		if !isLoop(e) && weight(d, e.From, e.To) > 2*e.Cost {
			return 0, api.ErrProof
		}
	}
	cost := costOf(g, m)
	if together(d) != 2*cost {
		return 0, api.ErrProof
	}
	return cost, api.OK
}

// trianglesCase: two triangles whose edges cost nothing, joined by one that costs 1: it must be taken, and without the sets nothing proves that.
func trianglesCase() (api.Graph, []int, vouch.Duals) {
	g := priced(6, [3]int{0, 1, 0}, [3]int{1, 2, 0}, [3]int{2, 0, 0}, [3]int{3, 4, 0}, [3]int{5, 4, 0}, [3]int{3, 5, 0},
		[3]int{2, 3, 1}, [3]int{4, 4, -9})
	d := vouch.Duals{Y: []int64{1, 1, 1, 1, 1, 1}, Sets: []vouch.Blossom{{Nodes: []int{0, 1, 2}, Z: 2}, {Nodes: []int{3, 4, 5}, Z: 2}}}
	return g, []int{0, 4, 6}, d
}

func TestP12_3CheapestRefuses(t *testing.T) {
	for _, c := range []struct {
		name   string
		change func(g *api.Graph, m *[]int, d *vouch.Duals)
		cost   int64
		code   api.Errno
	}{
		{"nothing changed", func(g *api.Graph, m *[]int, d *vouch.Duals) {}, 1, api.OK},
		{"a dearer edge beside it", func(g *api.Graph, m *[]int, d *vouch.Duals) {
			g.Edges = append(g.Edges, api.Edge{From: 0, To: 5, Cost: 1})
		}, 1, api.OK},
		{"a cheaper edge beside it", func(g *api.Graph, m *[]int, d *vouch.Duals) {
			g.Edges = append(g.Edges, api.Edge{From: 0, To: 5, Cost: 0})
		}, 0, api.ErrProof},
		{"the weights spread otherwise", func(g *api.Graph, m *[]int, d *vouch.Duals) {
			d.Y = []int64{0, 0, 0, 2, 2, 2}
			d.Sets = []vouch.Blossom{{Nodes: []int{3, 4, 5}, Z: 4}}
		}, 1, api.OK},
		{"a set of weight 0 more", func(g *api.Graph, m *[]int, d *vouch.Duals) {
			d.Sets = append(d.Sets, vouch.Blossom{Nodes: []int{0, 3, 5}})
		}, 1, api.OK},
		{"a set in two halves", func(g *api.Graph, m *[]int, d *vouch.Duals) {
			d.Sets[0].Z = 1
			d.Sets = append(d.Sets, vouch.Blossom{Nodes: []int{0, 1, 2}, Z: 1})
		}, 1, api.OK},
		{"as many sets as nodes", func(g *api.Graph, m *[]int, d *vouch.Duals) {
			for range 4 {
				d.Sets = append(d.Sets, vouch.Blossom{Nodes: []int{0, 1, 2, 4, 5}})
			}
		}, 1, api.OK},
		{"more sets than nodes", func(g *api.Graph, m *[]int, d *vouch.Duals) {
			for range 5 {
				d.Sets = append(d.Sets, vouch.Blossom{Nodes: []int{0, 1, 2, 4, 5}})
			}
		}, 0, api.ErrProof},
		{"no sets", func(g *api.Graph, m *[]int, d *vouch.Duals) { d.Sets = nil }, 0, api.ErrProof},
		{"a set too few", func(g *api.Graph, m *[]int, d *vouch.Duals) { d.Sets = d.Sets[:1] }, 0, api.ErrProof},
		{"a set too heavy", func(g *api.Graph, m *[]int, d *vouch.Duals) { d.Sets[0].Z = 3 }, 0, api.ErrProof},
		{"a set too light", func(g *api.Graph, m *[]int, d *vouch.Duals) { d.Sets[0].Z = 1 }, 0, api.ErrProof},
		{"a set below nothing", func(g *api.Graph, m *[]int, d *vouch.Duals) {
			d.Sets = append(d.Sets, vouch.Blossom{Nodes: []int{0, 1, 2}, Z: 1}, vouch.Blossom{Nodes: []int{0, 1, 2}, Z: -1})
		}, 0, api.ErrProof},
		{"a set of two", func(g *api.Graph, m *[]int, d *vouch.Duals) {
			d.Sets = append(d.Sets, vouch.Blossom{Nodes: []int{0, 3}})
		}, 0, api.ErrProof},
		{"a set of four", func(g *api.Graph, m *[]int, d *vouch.Duals) {
			d.Sets = append(d.Sets, vouch.Blossom{Nodes: []int{0, 1, 2, 3}})
		}, 0, api.ErrProof},
		{"a set of one", func(g *api.Graph, m *[]int, d *vouch.Duals) {
			d.Sets = append(d.Sets, vouch.Blossom{Nodes: []int{0}, Z: 5})
		}, 0, api.ErrProof},
		{"a set of none", func(g *api.Graph, m *[]int, d *vouch.Duals) { d.Sets = append(d.Sets, vouch.Blossom{}) }, 0, api.ErrProof},
		{"a set that doesn't rise", func(g *api.Graph, m *[]int, d *vouch.Duals) { d.Sets[0].Nodes = []int{1, 0, 2} }, 0, api.ErrProof},
		{"a node twice in a set", func(g *api.Graph, m *[]int, d *vouch.Duals) { d.Sets[0].Nodes = []int{0, 1, 1, 2, 2} }, 0, api.ErrProof},
		{"no such node in a set", func(g *api.Graph, m *[]int, d *vouch.Duals) {
			d.Sets = append(d.Sets, vouch.Blossom{Nodes: []int{0, 3, 6}})
		}, 0, api.ErrProof},
		{"a node below 0 in a set", func(g *api.Graph, m *[]int, d *vouch.Duals) {
			d.Sets = append(d.Sets, vouch.Blossom{Nodes: []int{-1, 3, 5}})
		}, 0, api.ErrProof},
		{"no weights", func(g *api.Graph, m *[]int, d *vouch.Duals) { d.Y = nil }, 0, api.ErrProof},
		{"a weight too few", func(g *api.Graph, m *[]int, d *vouch.Duals) { d.Y = d.Y[:5] }, 0, api.ErrProof},
		{"a weight too many", func(g *api.Graph, m *[]int, d *vouch.Duals) { d.Y = append(d.Y, 0) }, 0, api.ErrProof},
		{"a heavier node", func(g *api.Graph, m *[]int, d *vouch.Duals) { d.Y[0] = 2 }, 0, api.ErrProof},
		{"a lighter node", func(g *api.Graph, m *[]int, d *vouch.Duals) { d.Y[0] = 0 }, 0, api.ErrProof},
		{"an edge too few", func(g *api.Graph, m *[]int, d *vouch.Duals) { *m = []int{0, 6} }, 0, api.ErrProof},
		{"no matching", func(g *api.Graph, m *[]int, d *vouch.Duals) { *m = []int{0, 1, 6} }, 0, api.ErrProof},
		{"edges that don't rise", func(g *api.Graph, m *[]int, d *vouch.Duals) { *m = []int{0, 6, 4} }, 0, api.ErrProof},
		{"a loop", func(g *api.Graph, m *[]int, d *vouch.Duals) { *m = []int{0, 6, 7} }, 0, api.ErrProof},
		{"a node left out", func(g *api.Graph, m *[]int, d *vouch.Duals) {
			g.Nodes = 7
			d.Y = append(d.Y, 0)
		}, 0, api.ErrProof},
		{"nothing", func(g *api.Graph, m *[]int, d *vouch.Duals) { *g, *m, *d = api.Graph{}, nil, vouch.Duals{} }, 0, api.OK},
	} {
		g, m, d := trianglesCase()
		c.change(&g, &m, &d)
		if cost, code := vouch.Cheapest(g, m, d); cost != c.cost || code != c.code {
			t.Errorf("%s: %d, %v; it should be %d, %v", c.name, cost, code, c.cost, c.code)
		}
	}
}

// TestP12_3CheapestAllSmall: of four nodes or two just the cheapest matchings that take all are taken, each with some weights.
func TestP12_3CheapestAllSmall(t *testing.T) {
	row := trial.NewScatter(85)
	for round := range 40 {
		nodes := []int{2, 4}[round%2]
		g := row.Small(nodes, row.Between(2, 6), 0, -1, 1)
		takesAll := func(m []int) bool { return matches(g, m) && 2*len(m) == nodes }
		best := int64(math.MaxInt64)
		for m := range trial.Subsets(len(g.Edges)) {
			if takesAll(m) {
				best = min(best, costOf(g, m))
			}
		}
		proved := make(map[int64]bool) // costs
		for y := range trial.Lists[int64](nodes, -4, 4) {
			d := vouch.Duals{Y: y}
			for m := range trial.Subsets(len(g.Edges)) {
				if !takesAll(m) {
					continue
				}
				cost, code := vouch.Cheapest(g, m, d)
				if want, wantCode := cheapestWords(g, m, d); cost != want || code != wantCode || code == api.OK && cost != best {
					t.Fatalf("%v: Cheapest of %v, %v: %d, %v; it should be %d, %v", g, m, y, cost, code, want, wantCode)
				}
				if code == api.OK {
					proved[costOf(g, m)] = true
				}
			}
		}
		if best < math.MaxInt64 && !proved[best] {
			t.Fatalf("%v: nothing proves that %d is least", g, best)
		}
	}
}

// shuffled: the numbers below n in a scattered order.
func shuffled(row *trial.Scatter, n int) []int {
	list := upTo(n)
	for k := range list {
		other := row.Below(k + 1)
		list[k], list[other] = list[other], list[k]
	}
	return list
}

// scatteredDuals: duals, all even, and nodes that stand pair by pair, so that each set holds pairs and one node more. A set's weight is at most mostZ, a node's off base by at most mostY.
func scatteredDuals(row *trial.Scatter, nodes, sets int, base, mostY, mostZ int) (vouch.Duals, []int) {
	pairs := shuffled(row, nodes)
	var d vouch.Duals
	for range nodes {
		d.Y = append(d.Y, int64(2*(base+row.Between(-mostY, mostY))))
	}
	for range sets {
		first := row.Below(nodes/2 - 1)
		last := row.Between(first+1, nodes/2-1)
		list := append(slices.Clone(pairs[2*first:2*last]), pairs[2*last+row.Below(2)])
		slices.Sort(list)
		d.Sets = append(d.Sets, vouch.Blossom{Nodes: list, Z: int64(2 * row.Below(mostZ+1))})
	}
	return d, pairs
}

// provedCase: a graph with a matching that takes all nodes and duals that prove it cheapest: its own edges weigh as much as they may, others less or as much.
func provedCase(row *trial.Scatter, nodes, others, sets int) (api.Graph, []int, vouch.Duals) {
	d, pairs := scatteredDuals(row, nodes, sets, 0, 50, 9)
	g := api.Graph{Nodes: nodes}
	for k := 0; k < nodes; k += 2 {
		g.Edges = append(g.Edges, api.Edge{From: pairs[k], To: pairs[k+1], Cost: weight(d, pairs[k], pairs[k+1]) / 2})
	}
	for range others {
		e := api.Edge{From: row.Below(nodes), To: row.Below(nodes)}
		if isLoop(e) {
			e.Cost = -api.MaxLabel
		} else {
			e.Cost = weight(d, e.From, e.To)/2 + int64(row.Below(2)*row.Below(40))
		}
		g.Edges = append(g.Edges, e)
	}
	return g, upTo(nodes / 2), d
}

// spoilt: one thing about duals changed a little.
func spoilt(row *trial.Scatter, d vouch.Duals) vouch.Duals {
	d.Y = slices.Clone(d.Y)
	d.Sets = slices.Clone(d.Sets)
	v := row.Below(len(d.Y))
	if len(d.Sets) == 0 || row.Below(2) == 0 {
		d.Y[v] += int64(row.Between(-2, 2))
		return d
	}
	k := row.Below(len(d.Sets))
	list := slices.Clone(d.Sets[k].Nodes)
	at := row.Below(len(list))
	switch row.Below(4) {
	case 0:
		d.Sets[k].Z += int64(row.Between(-2, 2))
	case 1:
		list[at] += row.Between(-1, 1)
	case 2:
		list = slices.Delete(list, at, min(at+2, len(list)))
	case 3:
		d.Sets = slices.Delete(d.Sets, k, k+1)
		return d
	}
	d.Sets[k].Nodes = list
	return d
}

// TestP12_3CheapestScattered: proofs with many sets are taken, and what is changed about them is told as the words do.
func TestP12_3CheapestScattered(t *testing.T) {
	row := trial.NewScatter(86)
	refused := 0
	for round := range 300 {
		nodes := 2 * row.Between(2, 12)
		g, m, d := provedCase(row, nodes, row.Below(40), row.Below(nodes+1))
		if cost, code := vouch.Cheapest(g, m, d); cost != costOf(g, m) || code != api.OK {
			t.Fatalf("round %d: %v, %v: %d, %v", round, g, d, cost, code)
		}
		for range 30 {
			bad := spoilt(row, d)
			cost, code := vouch.Cheapest(g, m, bad)
			if want, wantCode := cheapestWords(g, m, bad); cost != want || code != wantCode {
				t.Fatalf("round %d: %v, %v: %d, %v; it should be %d, %v", round, g, bad, cost, code, want, wantCode)
			}
			if code != api.OK {
				refused++
			}
		}
	}
	if refused < 3000 {
		t.Errorf("only %d proofs were refused", refused)
	}
}

func TestP12_3CheapestLimits(t *testing.T) {
	for z, taken := range limits() {
		g := priced(6, [3]int{0, 1, 2}, [3]int{2, 3, 0}, [3]int{4, 5, 0})
		d := vouch.Duals{Y: []int64{3, 1, z, -z, 0, 0}}
		want := api.ErrProof
		if taken {
			want = api.OK
		}
		if _, code := vouch.Cheapest(g, []int{0, 1, 2}, d); code != want {
			t.Errorf("weights %d and %d: %v", z, -z, code)
		}
		// The set has one pair and node 2: that pair may weigh more by Z.
		d = vouch.Duals{Y: []int64{3, 1, 0, 0, z, 0}, Sets: []vouch.Blossom{{Nodes: []int{2, 4, 5}, Z: z}}}
		if z < 0 {
			want = api.ErrProof
		}
		if _, code := vouch.Cheapest(g, []int{0, 1, 2}, d); code != want {
			t.Errorf("a set of weight %d: %v", z, code)
		}
	}
}

// TestP12_3CheapestFull: as many nodes, edges and sets as there may be, with all weights at their limits: no sum wraps.
func TestP12_3CheapestFull(t *testing.T) {
	const n = api.MaxNodes
	row := trial.NewScatter(87)
	g, m, d := provedCase(row, n, api.MaxEdges-n/2, n)
	if cost, code := vouch.Cheapest(g, m, d); cost != costOf(g, m) || code != api.OK {
		t.Errorf("%d, %v", cost, code)
	}
	d.Sets = append(d.Sets, vouch.Blossom{Nodes: []int{0, 1, 2}})
	if cost, code := vouch.Cheapest(g, m, d); cost != 0 || code != api.ErrProof {
		t.Errorf("with a set too many: %d, %v", cost, code)
	}
	heavy := vouch.Duals{Y: slices.Repeat([]int64{-proof.MaxPot}, n)}
	for range n {
		heavy.Sets = append(heavy.Sets, vouch.Blossom{Nodes: upTo(n - 1), Z: proof.MaxPot})
	}
	if cost, code := vouch.Cheapest(g, m, heavy); cost != 0 || code != api.ErrProof {
		t.Errorf("with the least weights: %d, %v", cost, code)
	}
	for v := range heavy.Y {
		heavy.Y[v] = proof.MaxPot
	}
	if cost, code := vouch.Cheapest(g, m, heavy); cost != 0 || code != api.ErrProof {
		t.Errorf("with the greatest weights: %d, %v", cost, code)
	}
}

func TestP12_3CheapestCostsAtTheirLimits(t *testing.T) {
	for _, cost := range []int64{-api.MaxLabel, api.MaxLabel} {
		g := api.Graph{Nodes: api.MaxNodes}
		for v := 0; v < api.MaxNodes; v += 2 {
			g.Edges = append(g.Edges, api.Edge{From: v, To: v + 1, Cost: cost})
		}
		d := vouch.Duals{Y: slices.Repeat([]int64{cost}, api.MaxNodes)}
		if got, code := vouch.Cheapest(g, upTo(api.MaxNodes/2), d); got != api.MaxNodes/2*cost || code != api.OK {
			t.Errorf("edges of cost %d: %d, %v", cost, got, code)
		}
	}
}
