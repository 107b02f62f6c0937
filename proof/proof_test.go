package proof_test

import (
	"math"
	"slices"
	"testing"

	"compass/api"
	"compass/proof"
	"compass/safeint"
	"compass/trial"
	"compass/walk"
)

// far: numbers that are nothing within the limits.
func far() []int64 { return []int64{math.MinInt64, -1 << 62, 1 << 62, math.MaxInt64} }

// outside: numbers that none of n nodes have.
func outside(n int) []int { return []int{-1, n, n + 1, math.MinInt, math.MaxInt} }

// capped: edges with capacities.
func capped(nodes int, edges ...[3]int) api.Graph {
	g := api.Graph{Nodes: nodes}
	for _, e := range edges {
		g.Edges = append(g.Edges, api.Edge{From: e[0], To: e[1], Cap: int64(e[2])})
	}
	return g
}

// priced: edges with costs, all of capacity 9.
func priced(nodes int, edges ...[3]int) api.Graph {
	g := api.Graph{Nodes: nodes}
	for _, e := range edges {
		g.Edges = append(g.Edges, api.Edge{From: e[0], To: e[1], Cap: 9, Cost: int64(e[2])})
	}
	return g
}

// sideOf: the side of these nodes.
func sideOf(nodes int, on ...int) []bool {
	side := make([]bool, nodes)
	for _, v := range on {
		side[v] = true
	}
	return side
}

// netOut: how much more goes out of a node than comes into it.
func netOut(g api.Graph, on []int64, v int) int64 {
	var sum int64
	for i, e := range g.Edges {
		if e.From == v {
			sum += on[i]
		}
		if e.To == v {
			sum -= on[i]
		}
	}
	return sum
}

func fits(g api.Graph, on []int64) bool {
	for i, x := range on {
		if x < 0 || x > g.Edges[i].Cap {
			return false
		}
	}
	return true
}

func costOf(g api.Graph, amounts []int64) int64 {
	var sum int64
	for i, x := range amounts {
		sum += g.Edges[i].Cost * x
	}
	return sum
}

// cutOf: the capacities of the edges from a side to off it.
func cutOf(g api.Graph, side []bool) int64 {
	var sum int64
	for _, e := range g.Edges {
		if side[e.From] && !side[e.To] {
			sum += e.Cap
		}
	}
	return sum
}

func TestP11TheChaptersExamples(t *testing.T) {
	g := capped(2, [3]int{0, 1, 3})
	f := proof.Flow{Source: 0, Sink: 1, On: []int64{3}, Side: sideOf(2, 0)}
	if v, code := proof.Max(g, f); v != 3 || code != api.OK {
		t.Errorf("Max: %d, %v", v, code)
	}
	f.On = []int64{2}
	if v, code := proof.Max(g, f); v != 0 || code != api.ErrProof {
		t.Errorf("Max of less: %d, %v", v, code)
	}
	loop := priced(1, [3]int{0, 0, 5})
	for _, pot := range []int64{0, 7, -proof.MaxPot, proof.MaxPot} {
		if m, code := proof.Mean(loop, proof.Loop{Circle: []int{0}, Pot: []int64{pot}}); m != (safeint.Ratio{Num: 5, Den: 1}) || code != api.OK {
			t.Errorf("Mean with potential %d: %v, %v", pot, m, code)
		}
	}
	if proof.MaxPot != 4398046511104 {
		t.Error("MaxPot isn't the document's")
	}
}

// flowCase: the fifth example of the whole, with a flow that is proved greatest.
func flowCase() (api.Graph, proof.Flow) {
	g := capped(4, [3]int{0, 1, 2}, [3]int{1, 3, 9}, [3]int{0, 2, 3}, [3]int{2, 3, 2})
	return g, proof.Flow{Source: 0, Sink: 3, On: []int64{2, 2, 2, 2}, Side: sideOf(4, 0, 2)}
}

func TestP11_1MaxRefuses(t *testing.T) {
	for _, c := range []struct {
		name   string
		change func(g *api.Graph, f *proof.Flow)
		value  int64
		code   api.Errno
	}{
		{"nothing changed", func(g *api.Graph, f *proof.Flow) {}, 4, api.OK},
		{"no amounts", func(g *api.Graph, f *proof.Flow) { f.On = nil }, 0, api.ErrProof},
		{"an amount too few", func(g *api.Graph, f *proof.Flow) { f.On = f.On[:3] }, 0, api.ErrProof},
		{"an amount too many", func(g *api.Graph, f *proof.Flow) { f.On = append(f.On, 0) }, 0, api.ErrProof},
		{"more than the capacity", func(g *api.Graph, f *proof.Flow) { g.Edges[1].Cap = 1 }, 0, api.ErrProof},
		{"full to the capacity", func(g *api.Graph, f *proof.Flow) { g.Edges[1].Cap = 2 }, 4, api.OK},
		{"less than is proved", func(g *api.Graph, f *proof.Flow) { f.On = []int64{1, 1, 2, 2} }, 0, api.ErrProof},
		{"more comes in than goes out", func(g *api.Graph, f *proof.Flow) { f.On[1] = 1 }, 0, api.ErrProof},
		{"more goes out than comes in", func(g *api.Graph, f *proof.Flow) { f.On[1] = 3 }, 0, api.ErrProof},
		{"no side", func(g *api.Graph, f *proof.Flow) { f.Side = nil }, 0, api.ErrProof},
		{"a side too short", func(g *api.Graph, f *proof.Flow) { f.Side = f.Side[:3] }, 0, api.ErrProof},
		{"a side too long", func(g *api.Graph, f *proof.Flow) { f.Side = append(f.Side, false) }, 0, api.ErrProof},
		{"a cut that isn't least", func(g *api.Graph, f *proof.Flow) { f.Side = sideOf(4, 0) }, 0, api.ErrProof},
		{"a side without the source", func(g *api.Graph, f *proof.Flow) { f.Side = sideOf(4, 2) }, 0, api.ErrProof},
		{"a side with the sink", func(g *api.Graph, f *proof.Flow) { f.Side = sideOf(4, 0, 2, 3) }, 0, api.ErrProof},
		{"a loop with something on it", func(g *api.Graph, f *proof.Flow) {
			g.Edges = append(g.Edges, api.Edge{From: 1, To: 1, Cap: 5})
			f.On = append(f.On, 3)
		}, 4, api.OK},
		{"an edge back over the cut may be empty", func(g *api.Graph, f *proof.Flow) {
			g.Edges = append(g.Edges, api.Edge{From: 3, To: 2, Cap: 5})
			f.On = append(f.On, 0)
		}, 4, api.OK},
		{"what comes back into the source is no gain", func(g *api.Graph, f *proof.Flow) {
			g.Edges = append(g.Edges, api.Edge{From: 1, To: 0, Cap: 1})
			f.On = []int64{2, 1, 2, 2, 1}
		}, 0, api.ErrProof},
		{"less than nothing on an edge", func(g *api.Graph, f *proof.Flow) {
			g.Edges = append(g.Edges, api.Edge{From: 3, To: 1, Cap: 5})
			f.On = []int64{2, 1, 2, 2, -1}
		}, 0, api.ErrProof},
	} {
		g, f := flowCase()
		c.change(&g, &f)
		if v, code := proof.Max(g, f); v != c.value || code != c.code {
			t.Errorf("%s: %d, %v; it should be %d, %v", c.name, v, code, c.value, c.code)
		}
	}
}

// TestP11_1MaxEmptySides: a side with the sink, or without the source, would prove that nothing can go.
func TestP11_1MaxEmptySides(t *testing.T) {
	g := capped(2, [3]int{0, 1, 3})
	for _, c := range []struct {
		side []bool
		code api.Errno
	}{{sideOf(2), api.ErrProof}, {sideOf(2, 0, 1), api.ErrProof}, {sideOf(2, 1), api.ErrProof}} {
		if v, code := proof.Max(g, proof.Flow{Sink: 1, On: []int64{0}, Side: c.side}); v != 0 || code != c.code {
			t.Errorf("side %v: %d, %v", c.side, v, code)
		}
	}
	if v, code := proof.Max(g, proof.Flow{Source: 1, On: []int64{0}, Side: sideOf(2, 1)}); v != 0 || code != api.OK {
		t.Errorf("against the edge: %d, %v", v, code)
	}
}

func TestP11_1MaxRefusesNodes(t *testing.T) {
	g, f := flowCase()
	for _, wrong := range outside(4) {
		for _, other := range append(outside(4), 0, 3) {
			for _, pair := range [][2]int{{wrong, other}, {other, wrong}} {
				for _, on := range [][]int64{f.On, nil} { // ahead of what the proof lacks
					bad := proof.Flow{Source: pair[0], Sink: pair[1], On: on, Side: f.Side}
					if v, code := proof.Max(g, bad); v != 0 || code != api.ErrNode {
						t.Errorf("from %d to %d: %d, %v", pair[0], pair[1], v, code)
					}
				}
			}
		}
	}
	for v := range 4 {
		for _, on := range [][]int64{f.On, nil} {
			if value, code := proof.Max(g, proof.Flow{Source: v, Sink: v, On: on, Side: f.Side}); value != 0 || code != api.ErrSame {
				t.Errorf("from %d to it: %d, %v", v, value, code)
			}
		}
	}
}

// TestP11_1MaxAllSmall: of all amounts and sides just the greatest flows with the least cuts are taken.
func TestP11_1MaxAllSmall(t *testing.T) {
	row := trial.NewScatter(71)
	for range 150 {
		nodes := row.Between(2, 4)
		g := row.Small(nodes, row.Below(5), 2, 0, 0)
		s, sink := 0, nodes-1
		isFlow := func(on []int64) bool {
			for v := 1; v < sink; v++ {
				if netOut(g, on, v) != 0 {
					return false
				}
			}
			return fits(g, on)
		}
		var best int64
		for on := range trial.Lists[int64](len(g.Edges), 0, 2) {
			if isFlow(on) {
				best = max(best, netOut(g, on, s))
			}
		}
		proved := false
		for on := range trial.Lists[int64](len(g.Edges), -1, 3) {
			greatest := isFlow(on) && netOut(g, on, s) == best
			for side := range trial.Sides(nodes) {
				v, code := proof.Max(g, proof.Flow{Source: s, Sink: sink, On: on, Side: side})
				want, wantCode := int64(0), api.ErrProof
				if greatest && side[s] && !side[sink] && cutOf(g, side) == best {
					want, wantCode, proved = best, api.OK, true
				}
				if v != want || code != wantCode {
					t.Fatalf("%v: Max of %v, %v: %d, %v; it should be %d, %v", g, on, side, v, code, want, wantCode)
				}
			}
		}
		if !proved {
			t.Fatalf("%v: no flow is proved greatest", g)
		}
	}
}

// planCase: the sixth example of the whole, with a node more, and a plan that is proved cheapest.
func planCase() (api.Graph, proof.Plan) {
	g := api.Graph{Nodes: 3, Edges: []api.Edge{{From: 0, To: 1, Cap: 9, Cost: 5}, {From: 0, To: 1, Cap: 2, Cost: 3}}}
	return g, proof.Plan{Supply: []int64{3, -3, 0}, On: []int64{1, 2}, Pot: []int64{0, 5, 0}}
}

func TestP11_2CheapestRefuses(t *testing.T) {
	for _, c := range []struct {
		name   string
		change func(g *api.Graph, p *proof.Plan)
		cost   int64
		code   api.Errno
	}{
		{"nothing changed", func(g *api.Graph, p *proof.Plan) {}, 11, api.OK},
		{"all potentials higher", func(g *api.Graph, p *proof.Plan) { p.Pot = []int64{7, 12, 0} }, 11, api.OK},
		{"no amounts", func(g *api.Graph, p *proof.Plan) { p.On = nil }, 0, api.ErrProof},
		{"an amount too few", func(g *api.Graph, p *proof.Plan) { p.On = p.On[:1] }, 0, api.ErrProof},
		{"an amount too many", func(g *api.Graph, p *proof.Plan) { p.On = append(p.On, 0) }, 0, api.ErrProof},
		{"more than the capacity", func(g *api.Graph, p *proof.Plan) { p.On = []int64{0, 3} }, 0, api.ErrProof},
		{"less than nothing", func(g *api.Graph, p *proof.Plan) {
			g.Edges = append(g.Edges, api.Edge{From: 1, To: 0, Cap: 9, Cost: -5})
			p.On = []int64{0, 2, -1}
		}, 0, api.ErrProof},
		{"too little for the supplies", func(g *api.Graph, p *proof.Plan) { p.On = []int64{0, 2} }, 0, api.ErrProof},
		{"the supplies the wrong way", func(g *api.Graph, p *proof.Plan) { p.Supply = []int64{-3, 3, 0} }, 0, api.ErrProof},
		{"something on a dear edge", func(g *api.Graph, p *proof.Plan) { p.Pot[1] = 4 }, 0, api.ErrProof},
		{"a cheap edge that isn't full", func(g *api.Graph, p *proof.Plan) { p.Pot[1] = 6 }, 0, api.ErrProof},
		{"the dearer plan", func(g *api.Graph, p *proof.Plan) { p.On = []int64{3, 0} }, 0, api.ErrProof},
		{"no potentials", func(g *api.Graph, p *proof.Plan) { p.Pot = nil }, 0, api.ErrProof},
		{"a potential too few", func(g *api.Graph, p *proof.Plan) { p.Pot = p.Pot[:2] }, 0, api.ErrProof},
		{"a potential too many", func(g *api.Graph, p *proof.Plan) { p.Pot = append(p.Pot, 0) }, 0, api.ErrProof},
		{"a loop that saves something, full", func(g *api.Graph, p *proof.Plan) {
			g.Edges = append(g.Edges, api.Edge{From: 2, To: 2, Cap: 4, Cost: -2})
			p.On = append(p.On, 4)
		}, 3, api.OK},
		{"a loop that saves something, not full", func(g *api.Graph, p *proof.Plan) {
			g.Edges = append(g.Edges, api.Edge{From: 2, To: 2, Cap: 4, Cost: -2})
			p.On = append(p.On, 3)
		}, 0, api.ErrProof},
		{"no supplies", func(g *api.Graph, p *proof.Plan) { p.Supply = nil }, 0, api.ErrSupply},
		{"a supply too few", func(g *api.Graph, p *proof.Plan) { p.Supply = p.Supply[:2] }, 0, api.ErrSupply},
		{"a supply too many", func(g *api.Graph, p *proof.Plan) { p.Supply = append(p.Supply, 0) }, 0, api.ErrSupply},
		{"supplies that make something", func(g *api.Graph, p *proof.Plan) { p.Supply[2] = 1 }, 0, api.ErrSupply},
		{"wrong supplies ahead of no proof", func(g *api.Graph, p *proof.Plan) { *p = proof.Plan{Supply: []int64{1, 1, 1}} }, 0, api.ErrSupply},
	} {
		g, p := planCase()
		c.change(&g, &p)
		if cost, code := proof.Cheapest(g, p); cost != c.cost || code != c.code {
			t.Errorf("%s: %d, %v; it should be %d, %v", c.name, cost, code, c.cost, c.code)
		}
	}
}

// TestP11_2SuppliesLimits: of Cheapest and NoPlan.
func TestP11_2SuppliesLimits(t *testing.T) {
	const most = api.MaxLabel
	g := capped(2, [3]int{0, 1, most})
	if cost, code := proof.Cheapest(g, proof.Plan{Supply: []int64{most, -most}, On: []int64{most}, Pot: []int64{0, 0}}); cost != 0 || code != api.OK {
		t.Errorf("Cheapest at the limit: %d, %v", cost, code)
	}
	if code := proof.NoPlan(g, []int64{-most, most}, sideOf(2, 1)); code != api.OK {
		t.Errorf("NoPlan at the limit: %v", code)
	}
	wrong := [][]int64{{most + 1, -most - 1}, {-most - 1, most + 1}, {math.MinInt64, math.MinInt64}, {1 << 62, -1 << 62}, {1, 0}, {0, 0, 0}, {0}, nil}
	for _, supply := range wrong {
		for _, side := range [][]bool{sideOf(2, 0), sideOf(2, 1), nil} {
			if code := proof.NoPlan(g, supply, side); code != api.ErrSupply {
				t.Errorf("NoPlan of %v: %v", supply, code)
			}
		}
		for _, on := range [][]int64{{most}, {0}, nil} {
			if cost, code := proof.Cheapest(g, proof.Plan{Supply: supply, On: on, Pot: []int64{0, 0}}); cost != 0 || code != api.ErrSupply {
				t.Errorf("Cheapest of %v: %d, %v", supply, cost, code)
			}
		}
	}
	if code := proof.NoPlan(capped(3), []int64{most, most, -2 * most}, sideOf(3, 0)); code != api.ErrSupply {
		t.Errorf("NoPlan of a supply below -MaxLabel: %v", code)
	}
}

// meets: do amounts fit and meet the supplies?
func meets(g api.Graph, supply, on []int64) bool {
	for v := range g.Nodes {
		if netOut(g, on, v) != supply[v] {
			return false
		}
	}
	return fits(g, on)
}

// bound: what plans cost at least, as potentials tell it: amounts that meet the supplies cost what they cost by the reduced costs, less what the potentials make of the supplies.
func bound(g api.Graph, supply, pot []int64) int64 {
	var sum int64
	for v, s := range supply {
		sum -= s * pot[v]
	}
	for _, e := range g.Edges {
		sum += min(0, e.Cap*(e.Cost+pot[e.From]-pot[e.To]))
	}
	return sum
}

// smallPlan: a small graph with supplies that make nothing.
func smallPlan(row *trial.Scatter) (api.Graph, []int64) {
	nodes := row.Between(1, 3)
	g := row.Small(nodes, row.Below(4), 2, -1, 1)
	supply := make([]int64, nodes)
	for range 2 {
		amount := int64(row.Below(3))
		supply[row.Below(nodes)] += amount
		supply[row.Below(nodes)] -= amount
	}
	return g, supply
}

// TestP11_2CheapestAllSmall: amounts and potentials are taken just where they cost the same; and the cheapest amounts have such potentials.
func TestP11_2CheapestAllSmall(t *testing.T) {
	row := trial.NewScatter(72)
	for range 200 {
		g, supply := smallPlan(row)
		best := int64(math.MaxInt64)
		for on := range trial.Lists[int64](len(g.Edges), 0, 2) {
			if meets(g, supply, on) {
				best = min(best, costOf(g, on))
			}
		}
		for on := range trial.Lists[int64](len(g.Edges), -1, 3) {
			met, proved := meets(g, supply, on), false
			for pot := range trial.Lists[int64](g.Nodes, -1, 2) {
				cost, code := proof.Cheapest(g, proof.Plan{Supply: supply, On: on, Pot: pot})
				want, wantCode := int64(0), api.ErrProof
				if met && costOf(g, on) == bound(g, supply, pot) {
					want, wantCode, proved = best, api.OK, true
				}
				if cost != want || code != wantCode {
					t.Fatalf("%v, %v: Cheapest of %v, %v: %d, %v; it should be %d, %v", g, supply, on, pot, cost, code, want, wantCode)
				}
			}
			if proved != (met && costOf(g, on) == best) {
				t.Fatalf("%v, %v: %v is proved cheapest: %v; the least cost is %d", g, supply, on, proved, best)
			}
		}
	}
}

// TestP11_2NoPlanAllSmall: sides are taken just where no amounts meet the supplies.
func TestP11_2NoPlanAllSmall(t *testing.T) {
	row := trial.NewScatter(73)
	for range 2000 {
		g, supply := smallPlan(row)
		none := true
		for on := range trial.Lists[int64](len(g.Edges), 0, 2) {
			none = none && !meets(g, supply, on)
		}
		proved := false
		for side := range trial.Sides(g.Nodes) {
			var supplied int64
			for v, on := range side {
				if on {
					supplied += supply[v]
				}
			}
			want := api.ErrProof
			if supplied > cutOf(g, side) {
				want, proved = api.OK, true
			}
			if code := proof.NoPlan(g, supply, side); code != want {
				t.Fatalf("%v, %v: NoPlan of %v: %v; it should be %v", g, supply, side, code, want)
			}
		}
		if proved != none {
			t.Fatalf("%v, %v: it is proved that there is no plan: %v; there is none: %v", g, supply, proved, none)
		}
	}
}

func TestP11_2NoPlan(t *testing.T) {
	g := capped(3, [3]int{0, 1, 3}, [3]int{1, 0, 9}, [3]int{2, 0, 5})
	for _, c := range []struct {
		name   string
		supply []int64
		side   []bool
		code   api.Errno
	}{
		{"more than can leave", []int64{4, -4, 0}, sideOf(3, 0), api.OK},
		{"just what can leave", []int64{3, -3, 0}, sideOf(3, 0), api.ErrProof},
		{"the other side", []int64{4, -4, 0}, sideOf(3, 1), api.ErrProof},
		{"nothing can come to 2", []int64{1, 0, -1}, sideOf(3, 0, 1), api.OK},
		{"no node", []int64{4, -4, 0}, sideOf(3), api.ErrProof},
		{"all nodes", []int64{4, -4, 0}, sideOf(3, 0, 1, 2), api.ErrProof},
		{"no side", []int64{4, -4, 0}, nil, api.ErrProof},
		{"a side too short", []int64{4, -4, 0}, []bool{true, false}, api.ErrProof},
		{"a side too long", []int64{4, -4, 0}, []bool{true, false, false, false}, api.ErrProof},
	} {
		if code := proof.NoPlan(g, c.supply, c.side); code != c.code {
			t.Errorf("%s: %v; it should be %v", c.name, code, c.code)
		}
	}
}

// meanCase: the example of layer 21, with potentials that prove that 3/2 is the least mean.
func meanCase() (api.Graph, proof.Loop) {
	g := priced(5, [3]int{0, 1, 1}, [3]int{1, 2, 2}, [3]int{2, 0, 3}, [3]int{0, 3, 2}, [3]int{3, 0, 1})
	// Twice the costs, less 3: -1, 1, 3, 1, -1.
	return g, proof.Loop{Circle: []int{3, 4}, Pot: []int64{0, -1, 0, 1, 0}}
}

func TestP11_3MeanRefuses(t *testing.T) {
	for _, c := range []struct {
		name   string
		change func(g *api.Graph, l *proof.Loop)
		mean   safeint.Ratio
		code   api.Errno
	}{
		{"nothing changed", func(g *api.Graph, l *proof.Loop) {}, safeint.Ratio{Num: 3, Den: 2}, api.OK},
		{"begun elsewhere", func(g *api.Graph, l *proof.Loop) { l.Circle = []int{4, 3} }, safeint.Ratio{Num: 3, Den: 2}, api.OK},
		{"no circle", func(g *api.Graph, l *proof.Loop) { l.Circle = nil }, safeint.Ratio{}, api.ErrProof},
		{"a way that doesn't close", func(g *api.Graph, l *proof.Loop) { l.Circle = []int{3} }, safeint.Ratio{}, api.ErrProof},
		{"twice round", func(g *api.Graph, l *proof.Loop) { l.Circle = []int{3, 4, 3, 4} }, safeint.Ratio{}, api.ErrProof},
		{"a node twice", func(g *api.Graph, l *proof.Loop) { l.Circle = []int{0, 1, 2, 3, 4} }, safeint.Ratio{}, api.ErrProof},
		{"edges apart", func(g *api.Graph, l *proof.Loop) { l.Circle = []int{0, 2} }, safeint.Ratio{}, api.ErrProof},
		{"no such edge", func(g *api.Graph, l *proof.Loop) { l.Circle = []int{3, 5} }, safeint.Ratio{}, api.ErrProof},
		{"an edge below 0", func(g *api.Graph, l *proof.Loop) { l.Circle = []int{-1, 4} }, safeint.Ratio{}, api.ErrProof},
		{"a circle of more mean cost", func(g *api.Graph, l *proof.Loop) { l.Circle = []int{0, 1, 2} }, safeint.Ratio{}, api.ErrProof},
		{"an edge too cheap by one", func(g *api.Graph, l *proof.Loop) { l.Pot[1] = 0 }, safeint.Ratio{}, api.ErrProof},
		{"a cheaper circle beside it", func(g *api.Graph, l *proof.Loop) {
			g.Edges = append(g.Edges, api.Edge{From: 4, To: 4, Cost: 1})
		}, safeint.Ratio{}, api.ErrProof},
		{"a dearer circle beside it", func(g *api.Graph, l *proof.Loop) {
			g.Edges = append(g.Edges, api.Edge{From: 4, To: 4, Cost: 2})
		}, safeint.Ratio{Num: 3, Den: 2}, api.OK},
		{"no potentials", func(g *api.Graph, l *proof.Loop) { l.Pot = nil }, safeint.Ratio{}, api.ErrProof},
		{"a potential too few", func(g *api.Graph, l *proof.Loop) { l.Pot = l.Pot[:4] }, safeint.Ratio{}, api.ErrProof},
		{"a potential too many", func(g *api.Graph, l *proof.Loop) { l.Pot = append(l.Pot, 0) }, safeint.Ratio{}, api.ErrProof},
		{"lowest terms", func(g *api.Graph, l *proof.Loop) {
			g.Edges[4].Cost, l.Circle = 0, []int{4, 3} // twice the costs, less 2: 0, 2, 4, 2, -2
			l.Pot = []int64{0, 0, 0, 2, 0}
		}, safeint.Ratio{Num: 1, Den: 1}, api.OK},
		{"a mean of nothing", func(g *api.Graph, l *proof.Loop) {
			g.Edges[4].Cost = -2
			l.Pot = []int64{0, 0, 0, 4, 0}
		}, safeint.Ratio{Num: 0, Den: 1}, api.OK},
		{"a mean below nothing", func(g *api.Graph, l *proof.Loop) {
			g.Edges[4].Cost = -5 // twice the costs, plus 3: 5, 7, 9, 7, -7
			l.Pot = []int64{0, 0, 0, 7, 0}
		}, safeint.Ratio{Num: -3, Den: 2}, api.OK},
	} {
		g, l := meanCase()
		c.change(&g, &l)
		if mean, code := proof.Mean(g, l); mean != c.mean || code != c.code {
			t.Errorf("%s: %v, %v; it should be %v, %v", c.name, mean, code, c.mean, c.code)
		}
	}
}

// isCircle: layer 4's words.
func isCircle(g api.Graph, list []int) bool {
	for k, i := range list {
		if i < 0 || i >= len(g.Edges) {
			return false
		}
		next := list[(k+1)%len(list)]
		if next < 0 || next >= len(g.Edges) || g.Edges[i].To != g.Edges[next].From {
			return false
		}
		for _, other := range list[:k] {
			if g.Edges[other].From == g.Edges[i].From {
				return false
			}
		}
	}
	return len(list) > 0
}

// TestP11_3MeanAllSmall: of all lists of edges just the circles of least mean cost are taken, each with some potentials.
func TestP11_3MeanAllSmall(t *testing.T) {
	row := trial.NewScatter(74)
	for range 60 {
		nodes := row.Between(1, 3)
		g := row.Small(nodes, row.Below(5), 0, -1, 1)
		var lists [][]int
		for length := range nodes + 2 {
			for list := range trial.Lists(length, -1, len(g.Edges)) {
				lists = append(lists, list)
			}
		}
		times := make([]int64, len(lists)) // the cost of each circle, as often as makes all means whole
		best := int64(math.MaxInt64)
		for k, list := range lists {
			if isCircle(g, list) {
				for _, i := range list {
					times[k] += 6 / int64(len(list)) * g.Edges[i].Cost
				}
				best = min(best, times[k])
			}
		}
		for k, list := range lists {
			proved := false
			for pot := range trial.Lists[int64](nodes, 0, 6) {
				mean, code := proof.Mean(g, proof.Loop{Circle: list, Pot: pot})
				if code == api.OK {
					proved = true
					if mean.Num*6 != best*mean.Den || safeint.Gcd(mean.Num, mean.Den) != 1 || mean.Den < 1 {
						t.Fatalf("%v: Mean of %v: %v; the least, six times, is %d", g, list, mean, best)
					}
				} else if code != api.ErrProof || mean != (safeint.Ratio{}) {
					t.Fatalf("%v: Mean of %v: %v, %v", g, list, mean, code)
				}
			}
			if proved != (isCircle(g, list) && times[k] == best) {
				t.Fatalf("%v: %v is proved best: %v", g, list, proved)
			}
		}
	}
}

func TestP11_3Acyclic(t *testing.T) {
	g := capped(3, [3]int{2, 0, 0}, [3]int{0, 1, 0}, [3]int{2, 1, 0})
	for _, c := range []struct {
		order []int
		code  api.Errno
	}{
		{[]int{2, 0, 1}, api.OK},
		{[]int{2, 1, 0}, api.ErrProof}, {[]int{0, 2, 1}, api.ErrProof}, {[]int{0, 1, 2}, api.ErrProof},
		{nil, api.ErrProof}, {[]int{2, 0}, api.ErrProof}, {[]int{2, 0, 1, 1}, api.ErrProof}, {[]int{2, 0, 1, 3}, api.ErrProof},
		{[]int{2, 2, 1}, api.ErrProof}, {[]int{2, 0, 3}, api.ErrProof}, {[]int{-1, 0, 1}, api.ErrProof},
		{[]int{2, math.MinInt, math.MaxInt}, api.ErrProof},
	} {
		if code := proof.Acyclic(g, c.order); code != c.code {
			t.Errorf("%v: %v; it should be %v", c.order, code, c.code)
		}
	}
	if proof.Acyclic(api.Graph{}, nil) != api.OK || proof.Acyclic(api.Graph{}, []int{0}) != api.ErrProof {
		t.Error("without nodes")
	}
	// Nodes that an order leaves out are missed though no edge has them.
	for _, order := range [][]int{nil, {0}, {1, 0}, {2, 1}} {
		if proof.Acyclic(capped(3), order) != api.ErrProof {
			t.Errorf("without edges, %v", order)
		}
	}
	if proof.Acyclic(capped(3, [3]int{1, 2, 0}), []int{1, 2}) != api.ErrProof || proof.Acyclic(capped(3, [3]int{1, 2, 0}), []int{1, 2, 0}) != api.OK {
		t.Error("a node without edges must be in the order too")
	}
	if proof.Acyclic(capped(1, [3]int{0, 0, 0}), []int{0}) != api.ErrProof {
		t.Error("a loop is a circle")
	}
}

// TestP11_3AcyclicAllSmall: orders are taken just where there is no circle.
func TestP11_3AcyclicAllSmall(t *testing.T) {
	for _, size := range [][2]int{{1, 1}, {2, 2}, {3, 2}, {3, 3}, {4, 2}} {
		for g := range trial.AllGraphs(size[0], size[1]) {
			proved := false
			for order := range trial.Lists(g.Nodes, -1, g.Nodes) {
				want := api.OK
				for v := range g.Nodes {
					if !slices.Contains(order, v) {
						want = api.ErrProof
					}
				}
				for _, e := range g.Edges {
					if slices.Index(order, e.From) >= slices.Index(order, e.To) {
						want = api.ErrProof
					}
				}
				proved = proved || want == api.OK
				if code := proof.Acyclic(g, order); code != want {
					t.Fatalf("%v: Acyclic of %v: %v; it should be %v", g, order, code, want)
				}
			}
			if _, _, code := walk.Order(g); proved != (code == api.OK) {
				t.Fatalf("%v: an order is taken: %v", g, proved)
			}
		}
	}
}

// roundCase: the ninth example of the whole, with two nodes more, and a round that is proved cheapest.
func roundCase() (api.Graph, proof.Round) {
	g := priced(4, [3]int{0, 1, 2}, [3]int{1, 0, 3}, [3]int{1, 0, 1})
	return g, proof.Round{Times: []int64{2, 1, 1}, Pot: []int64{0, 2, 0, 0}}
}

func TestP11_4PostmanRefuses(t *testing.T) {
	for _, c := range []struct {
		name   string
		change func(g *api.Graph, r *proof.Round)
		cost   int64
		code   api.Errno
	}{
		{"nothing changed", func(g *api.Graph, r *proof.Round) {}, 8, api.OK},
		{"no times", func(g *api.Graph, r *proof.Round) { r.Times = nil }, 0, api.ErrProof},
		{"a time too few", func(g *api.Graph, r *proof.Round) { r.Times = r.Times[:2] }, 0, api.ErrProof},
		{"a time too many", func(g *api.Graph, r *proof.Round) { r.Times = append(r.Times, 1) }, 0, api.ErrProof},
		{"an edge not walked", func(g *api.Graph, r *proof.Round) { r.Times = []int64{1, 0, 1} }, 0, api.ErrProof},
		{"an edge walked less than never", func(g *api.Graph, r *proof.Round) { r.Times = []int64{1, -1, 2} }, 0, api.ErrProof},
		{"more comes in than goes out", func(g *api.Graph, r *proof.Round) { r.Times[0] = 1 }, 0, api.ErrProof},
		{"more often than need be", func(g *api.Graph, r *proof.Round) { r.Times = []int64{3, 2, 1} }, 0, api.ErrProof},
		{"the second edge dear", func(g *api.Graph, r *proof.Round) { r.Pot[1] = 1 }, 0, api.ErrProof},
		{"the first edge too cheap", func(g *api.Graph, r *proof.Round) { r.Pot[1] = 3 }, 0, api.ErrProof},
		{"an edge walked once too cheap", func(g *api.Graph, r *proof.Round) {
			g.Edges = []api.Edge{{From: 0, To: 1, Cost: 2}, {From: 1, To: 0, Cost: 3}}
			r.Times, r.Pot = []int64{1, 1}, []int64{0, 3, 0, 0}
		}, 0, api.ErrProof},
		{"edges walked once may be dear", func(g *api.Graph, r *proof.Round) {
			g.Edges = []api.Edge{{From: 0, To: 1, Cost: 2}, {From: 1, To: 0, Cost: 3}}
			r.Times, r.Pot = []int64{1, 1}, []int64{0, 1, 0, 0}
		}, 5, api.OK},
		{"no potentials", func(g *api.Graph, r *proof.Round) { r.Pot = nil }, 0, api.ErrProof},
		{"a potential too few", func(g *api.Graph, r *proof.Round) { r.Pot = r.Pot[:3] }, 0, api.ErrProof},
		{"a potential too many", func(g *api.Graph, r *proof.Round) { r.Pot = append(r.Pot, 0) }, 0, api.ErrProof},
		{"an edge in a part of its own", func(g *api.Graph, r *proof.Round) {
			g.Edges = append(g.Edges, api.Edge{From: 3, To: 3, Cost: 1})
			r.Times = append(r.Times, 1)
		}, 0, api.ErrProof},
		{"a loop in the same part", func(g *api.Graph, r *proof.Round) {
			g.Edges = append(g.Edges, api.Edge{From: 1, To: 1, Cost: 1})
			r.Times = append(r.Times, 1)
		}, 9, api.OK},
		{"a loop walked twice", func(g *api.Graph, r *proof.Round) {
			g.Edges = append(g.Edges, api.Edge{From: 1, To: 1, Cost: 1})
			r.Times = append(r.Times, 2)
		}, 0, api.ErrProof},
		{"no edges", func(g *api.Graph, r *proof.Round) { g.Edges, r.Times = nil, nil }, 0, api.OK},
		{"nothing at all", func(g *api.Graph, r *proof.Round) { *g, *r = api.Graph{}, proof.Round{} }, 0, api.OK},
		{"a cost below nothing", func(g *api.Graph, r *proof.Round) { g.Edges[2].Cost = -1 }, 0, api.ErrMinus},
		{"a cost below nothing ahead of no proof", func(g *api.Graph, r *proof.Round) {
			g.Edges[0].Cost = -1
			*r = proof.Round{}
		}, 0, api.ErrMinus},
	} {
		g, r := roundCase()
		c.change(&g, &r)
		if cost, code := proof.Postman(g, r); cost != c.cost || code != c.code {
			t.Errorf("%s: %d, %v; it should be %d, %v", c.name, cost, code, c.cost, c.code)
		}
	}
}

func TestP11_4PostmanTimesLimits(t *testing.T) {
	loop := priced(1, [3]int{0, 0, 0})
	for _, times := range []int64{1, 2, api.MaxLabel - 1, api.MaxLabel} {
		if cost, code := proof.Postman(loop, proof.Round{Times: []int64{times}, Pot: []int64{5}}); cost != 0 || code != api.OK {
			t.Errorf("%d times: %d, %v", times, cost, code)
		}
	}
	for _, times := range append(far(), 0, -1, api.MaxLabel+1) {
		if cost, code := proof.Postman(loop, proof.Round{Times: []int64{times}, Pot: []int64{5}}); cost != 0 || code != api.ErrProof {
			t.Errorf("%d times: %d, %v", times, cost, code)
		}
	}
}

// inOnePart: do all edges lie in one part of layer 4, by these numbers?
func inOnePart(g api.Graph, part []int) bool {
	for _, e := range g.Edges {
		if part[e.From] != part[g.Edges[0].From] || part[e.To] != part[e.From] {
			return false
		}
	}
	return true
}

// TestP11_4PostmanAllSmall: just the cheapest rounds are taken, each with some potentials.
func TestP11_4PostmanAllSmall(t *testing.T) {
	row := trial.NewScatter(75)
	for range 300 {
		nodes := row.Between(1, 3)
		g := row.Small(nodes, row.Below(4), 0, 0, 2)
		parts, _ := walk.Parts(g)
		isRound := func(times []int64) bool {
			for v := range nodes {
				if netOut(g, times, v) != 0 {
					return false
				}
			}
			return !slices.Contains(times, 0) && inOnePart(g, parts)
		}
		best := int64(math.MaxInt64)
		for times := range trial.Lists[int64](len(g.Edges), 0, 4) {
			if isRound(times) {
				best = min(best, costOf(g, times))
			}
		}
		for times := range trial.Lists[int64](len(g.Edges), 0, 4) {
			proved := false
			for pot := range trial.Lists[int64](nodes, 0, 4) {
				cost, code := proof.Postman(g, proof.Round{Times: times, Pot: pot})
				if code == api.OK && cost == best {
					proved = true
				} else if code != api.ErrProof || cost != 0 {
					t.Fatalf("%v: Postman of %v, %v: %d, %v; the least is %d", g, times, pot, cost, code, best)
				}
			}
			if proved != (isRound(times) && costOf(g, times) == best) {
				t.Fatalf("%v: %v is proved cheapest: %v", g, times, proved)
			}
		}
	}
}

func TestP11_4Apart(t *testing.T) {
	g := capped(4, [3]int{0, 1, 0}, [3]int{1, 2, 0}, [3]int{2, 1, 0})
	for _, c := range []struct {
		name string
		side []bool
		code api.Errno
	}{
		{"what can't be left", sideOf(4, 1, 2), api.OK},
		{"with a node without edges", sideOf(4, 1, 2, 3), api.OK},
		{"left by an edge", sideOf(4, 0), api.ErrProof},
		{"left by another", sideOf(4, 0, 1), api.ErrProof},
		{"no edge on it", sideOf(4, 3), api.ErrProof},
		{"no node on it", sideOf(4), api.ErrProof},
		{"no edge off it", sideOf(4, 0, 1, 2), api.ErrProof},
		{"all nodes", sideOf(4, 0, 1, 2, 3), api.ErrProof},
		{"no side", nil, api.ErrProof},
		{"a side too short", sideOf(4, 1, 2)[:3], api.ErrProof},
		{"a side too long", sideOf(5, 1, 2), api.ErrProof},
	} {
		if code := proof.Apart(g, c.side); code != c.code {
			t.Errorf("%s: %v; it should be %v", c.name, code, c.code)
		}
	}
	if proof.Apart(api.Graph{}, nil) != api.ErrProof || proof.Apart(capped(2), sideOf(2, 0)) != api.ErrProof {
		t.Error("without edges nothing is apart")
	}
	if proof.Apart(capped(2, [3]int{0, 0, 0}, [3]int{1, 1, 0}), sideOf(2, 0)) != api.OK {
		t.Error("two loops are apart")
	}
}

// TestP11_4ApartAllSmall: sides are taken just where no closed walk takes all edges.
func TestP11_4ApartAllSmall(t *testing.T) {
	for _, size := range [][2]int{{1, 1}, {1, 2}, {2, 2}, {3, 0}, {3, 2}, {3, 3}, {4, 3}} {
		for g := range trial.AllGraphs(size[0], size[1]) {
			proved := false
			for side := range trial.Sides(g.Nodes) {
				code := proof.Apart(g, side)
				if code != api.OK && code != api.ErrProof {
					t.Fatalf("%v: Apart of %v: %v", g, side, code)
				}
				proved = proved || code == api.OK
			}
			strong, _ := walk.Strong(g)
			if proved == inOnePart(g, strong) {
				t.Fatalf("%v: it is proved that no closed walk takes all edges: %v", g, proved)
			}
		}
	}
}

// TestP11PotentialsLimits: those of a node without edges are held to the limits too.
func TestP11PotentialsLimits(t *testing.T) {
	for _, c := range []struct {
		pot  int64
		code api.Errno
	}{
		{0, api.OK}, {proof.MaxPot, api.OK}, {-proof.MaxPot, api.OK},
		{proof.MaxPot + 1, api.ErrProof}, {-proof.MaxPot - 1, api.ErrProof},
		{math.MaxInt64, api.ErrProof}, {math.MinInt64, api.ErrProof},
	} {
		g, p := planCase()
		p.Pot[2] = c.pot
		if _, code := proof.Cheapest(g, p); code != c.code {
			t.Errorf("Cheapest with potential %d: %v", c.pot, code)
		}
		h, l := meanCase()
		l.Pot[4] = c.pot
		if _, code := proof.Mean(h, l); code != c.code {
			t.Errorf("Mean with potential %d: %v", c.pot, code)
		}
		k, r := roundCase()
		r.Pot[3] = c.pot
		if _, code := proof.Postman(k, r); code != c.code {
			t.Errorf("Postman with potential %d: %v", c.pot, code)
		}
	}
	// Far apart potentials: nothing wraps.
	g := capped(2, [3]int{0, 1, 5})
	for _, c := range []struct {
		pot  []int64
		on   int64
		code api.Errno
	}{
		{[]int64{proof.MaxPot, -proof.MaxPot}, 0, api.OK}, {[]int64{proof.MaxPot, -proof.MaxPot}, 5, api.ErrProof},
		{[]int64{-proof.MaxPot, proof.MaxPot}, 5, api.OK}, {[]int64{-proof.MaxPot, proof.MaxPot}, 0, api.ErrProof},
		{[]int64{math.MaxInt64, math.MinInt64}, 0, api.ErrProof}, {[]int64{math.MinInt64, math.MaxInt64}, 5, api.ErrProof},
	} {
		if _, code := proof.Cheapest(g, proof.Plan{Supply: []int64{c.on, -c.on}, On: []int64{c.on}, Pot: c.pot}); code != c.code {
			t.Errorf("Cheapest of %d with %v: %v", c.on, c.pot, code)
		}
	}
}

// TestP11FarNumbers: amounts that would wrap to what is right are refused.
func TestP11FarNumbers(t *testing.T) {
	g := capped(3, [3]int{0, 1, 3}, [3]int{0, 1, 3}, [3]int{1, 2, 9}, [3]int{0, 0, 9})
	for _, x := range far() {
		on := []int64{x, 6 - x, 6, 0}
		if v, code := proof.Max(g, proof.Flow{Sink: 2, On: on, Side: sideOf(3, 0)}); v != 0 || code != api.ErrProof {
			t.Errorf("Max of %v: %d, %v", on, v, code)
		}
		if cost, code := proof.Cheapest(g, proof.Plan{Supply: []int64{6, 0, -6}, On: on, Pot: []int64{0, 0, 0}}); cost != 0 || code != api.ErrProof {
			t.Errorf("Cheapest of %v: %d, %v", on, cost, code)
		}
		loop := []int64{3, 3, 6, x}
		if v, code := proof.Max(g, proof.Flow{Sink: 2, On: loop, Side: sideOf(3, 0)}); v != 0 || code != api.ErrProof {
			t.Errorf("Max of %v: %d, %v", loop, v, code)
		}
	}
}

// TestP11FullGraphs: as many nodes and edges as there may be, with labels at their limits.
func TestP11FullGraphs(t *testing.T) {
	const label, edges = api.MaxLabel, api.MaxEdges
	repeat := func(e api.Edge) api.Graph {
		return api.Graph{Nodes: api.MaxNodes, Edges: slices.Repeat([]api.Edge{e}, edges)}
	}
	full := slices.Repeat([]int64{label}, edges)
	level := make([]int64, api.MaxNodes)
	flow := proof.Flow{Source: 1, Sink: 0, On: full, Side: sideOf(api.MaxNodes, 1)}
	if v, code := proof.Max(repeat(api.Edge{From: 1, To: 0, Cap: label}), flow); v != edges*label || code != api.OK {
		t.Errorf("Max: %d, %v", v, code)
	}
	loops := repeat(api.Edge{From: 7, To: 7, Cap: label, Cost: -label})
	if cost, code := proof.Cheapest(loops, proof.Plan{Supply: level, On: full, Pot: level}); cost != -edges*label*label || code != api.OK {
		t.Errorf("Cheapest: %d, %v", cost, code)
	}
	ring := api.Graph{Nodes: api.MaxNodes}
	var around, order []int
	for v := range api.MaxNodes {
		ring.Edges = append(ring.Edges, api.Edge{From: v, To: (v + 1) % api.MaxNodes, Cost: label})
		around, order = append(around, v), append(order, v)
	}
	if mean, code := proof.Mean(ring, proof.Loop{Circle: around, Pot: level}); mean != (safeint.Ratio{Num: label, Den: 1}) || code != api.OK {
		t.Errorf("Mean: %v, %v", mean, code)
	}
	if cost, code := proof.Postman(ring, proof.Round{Times: slices.Repeat([]int64{1}, api.MaxNodes), Pot: level}); cost != api.MaxNodes*label || code != api.OK {
		t.Errorf("Postman: %d, %v", cost, code)
	}
	if code := proof.Acyclic(ring, order); code != api.ErrProof {
		t.Errorf("Acyclic of a ring: %v", code)
	}
	ring.Edges = ring.Edges[:api.MaxNodes-1]
	if code := proof.Acyclic(ring, order); code != api.OK {
		t.Errorf("Acyclic of a chain: %v", code)
	}
	if code := proof.Apart(ring, sideOf(api.MaxNodes, api.MaxNodes-1)); code != api.OK {
		t.Errorf("Apart: %v", code)
	}
	back := repeat(api.Edge{From: 0, To: 1, Cost: label})
	back.Edges[0] = api.Edge{From: 1, To: 0, Cost: label}
	times := slices.Repeat([]int64{1}, edges)
	times[0] = edges - 1
	pot := slices.Clone(level)
	pot[0] = label
	if cost, code := proof.Postman(back, proof.Round{Times: times, Pot: pot}); cost != 2*(edges-1)*label || code != api.OK {
		t.Errorf("Postman there and back: %d, %v", cost, code)
	}
	supply := slices.Clone(level)
	for v := range api.MaxNodes / 2 {
		supply[v], supply[api.MaxNodes-1-v] = label, -label
	}
	if code := proof.NoPlan(api.Graph{Nodes: api.MaxNodes}, supply, sideOf(api.MaxNodes, order[:api.MaxNodes/2]...)); code != api.OK {
		t.Errorf("NoPlan: %v", code)
	}
}

// answer: what a call answered, of whichever.
type answer struct {
	number int64
	mean   safeint.Ratio
	code   api.Errno
}

// all: each call's answer, with proofs made of the same lists.
func all(g api.Graph, ends [2]int, numbers, pot []int64, list []int, side []bool) []answer {
	flow, flowCode := proof.Max(g, proof.Flow{Source: ends[0], Sink: ends[1], On: numbers, Side: side})
	plan, planCode := proof.Cheapest(g, proof.Plan{Supply: pot, On: numbers, Pot: pot})
	mean, meanCode := proof.Mean(g, proof.Loop{Circle: list, Pot: pot})
	round, roundCode := proof.Postman(g, proof.Round{Times: numbers, Pot: pot})
	return []answer{
		{number: flow, code: flowCode}, {number: plan, code: planCode}, {mean: mean, code: meanCode}, {number: round, code: roundCode},
		{code: proof.NoPlan(g, pot, side)}, {code: proof.Acyclic(g, list)}, {code: proof.Apart(g, side)},
	}
}

// TestP11WrongGraphsAreRefused: ahead of any other error.
func TestP11WrongGraphsAreRefused(t *testing.T) {
	for _, c := range trial.WrongGraphs() {
		for _, ends := range [][2]int{{0, 1}, {0, 0}, {-1, math.MaxInt}} {
			for _, numbers := range [][]int64{nil, {0}, {0, 0}, {1, 1, 1}, far()} {
				for _, got := range all(c.Graph, ends, numbers, numbers, []int{0, 1}, []bool{true, false}) {
					if got != (answer{code: c.Fault.Code}) {
						t.Errorf("a graph with fault %v: %v", c.Fault, got)
					}
				}
			}
		}
	}
}

// raw: a scattered number, often a wrong one.
func raw(row *trial.Scatter) int64 {
	if row.Below(6) == 0 {
		return far()[row.Below(4)]
	}
	return int64(row.Between(-1, 4))
}

// TestP1: whatever is handed in, every call ends, and beside an error there is nothing.
func TestP1(t *testing.T) {
	row := trial.NewScatter(76)
	for range 20000 {
		g := api.Graph{Nodes: row.Between(-1, 4)}
		for range row.Below(5) {
			g.Edges = append(g.Edges, api.Edge{From: row.Between(-1, 4), To: row.Below(4), Cap: raw(row), Cost: raw(row)})
		}
		var numbers, pot []int64
		var list []int
		var side []bool
		for range row.Below(6) {
			numbers = append(numbers, raw(row))
			list = append(list, int(raw(row)))
		}
		for range row.Below(6) {
			pot = append(pot, raw(row))
			side = append(side, row.Below(2) == 0)
		}
		for _, got := range all(g, [2]int{int(raw(row)), int(raw(row))}, numbers, pot, list, side) {
			if got.code != api.OK && got != (answer{code: got.code}) {
				t.Fatalf("%v: beside an error: %v", g, got)
			}
		}
	}
}

// TestP2: nothing that is handed in is changed, and the same call answers the same.
func TestP2(t *testing.T) {
	watch := func(g api.Graph, numbers, pot []int64, list []int, side []bool, taken int) {
		edges, sameEdges := trial.Watched(g.Edges, api.Edge{From: -7})
		numbers, sameNumbers := trial.Watched(numbers, -7)
		pot, samePot := trial.Watched(pot, -7)
		list, sameList := trial.Watched(list, -7)
		side, sameSide := trial.Watched(side, true)
		g.Edges = edges
		first := all(g, [2]int{0, 1}, numbers, pot, list, side)
		second := all(g, [2]int{0, 1}, numbers, pot, list, side)
		if !slices.Equal(first, second) || !sameEdges() || !sameNumbers() || !samePot() || !sameList() || !sameSide() {
			t.Fatal("a call changes what it is handed, or answers otherwise")
		}
		if first[taken].code != api.OK {
			t.Fatalf("%v isn't taken", first[taken])
		}
	}
	watch(capped(2, [3]int{0, 1, 3}), []int64{3}, []int64{3, -3}, []int{0, 1}, sideOf(2, 0), 0)
	watch(capped(2, [3]int{0, 1, 3}), []int64{3}, []int64{3, -3}, []int{0, 1}, sideOf(2, 0), 5)
	watch(priced(2, [3]int{0, 1, 5}), []int64{0}, []int64{0, 0}, []int{0}, sideOf(2, 1), 1)
	watch(priced(2, [3]int{0, 1, 5}), []int64{0}, []int64{4, -4}, []int{0}, sideOf(2, 1), 6)
	watch(priced(2, [3]int{1, 1, 5}), []int64{1}, []int64{4, -4}, []int{0}, sideOf(2, 0), 2)
	watch(priced(2, [3]int{1, 1, 5}), []int64{1}, []int64{4, -4}, []int{0}, sideOf(2, 0), 3)
	watch(priced(2, [3]int{1, 1, 5}), []int64{1}, []int64{4, -4}, []int{0}, sideOf(2, 0), 4)
}
