package perfect

import (
	"slices"
	"testing"

	"compass/api"
	"compass/blossom"
	"compass/trial"
)

// wantFlower: the petals make an odd circle, matched as is said, its steps without slack and within the petals' own nodes.
func wantFlower(t *testing.T, f *forest, in *flower, above int64) {
	t.Helper()
	if len(in.petals) == 0 {
		if len(in.nodes) != 1 || in.nodes[0] != in.base || f.leaf[in.base] != in {
			t.Fatalf("a node alone: %v, base %d", in.nodes, in.base)
		}
		return
	}
	above += 2 * in.half
	var nodes []int
	for i, petal := range in.petals {
		s, next := in.steps[i], in.petals[(i+1)%len(in.petals)]
		if petal.within != in || !slices.Contains(petal.nodes, s.from) || !slices.Contains(next.nodes, s.to) {
			t.Fatalf("%v: the step %v", in.nodes, s)
		}
		if left, joined := cheapestLeft(f, s); !joined || left+above != 0 {
			t.Fatalf("%v: the step %v has slack %d", in.nodes, s, left+above)
		}
		if matched := i%2 == 1; matched != (f.mate[s.from] == s.to) || matched != (f.mate[s.to] == s.from) {
			t.Fatalf("%v: the step %v, %d from the base, is or isn't matched", in.nodes, s, i)
		}
		if matched := i%2 == 1; matched && (petal.base != s.from || next.base != s.to) {
			t.Fatalf("%v: the step %v leads not from base to base", in.nodes, s)
		}
		nodes = append(nodes, petal.nodes...)
		wantFlower(t, f, petal, above)
	}
	wantArcs(t, f, in)
	if len(in.petals)%2 == 0 || in.half < 0 || in.base != in.petals[0].base || !sameNodes(nodes, in.nodes) {
		t.Fatalf("%v, base %d, weight %d: petals with %v", in.nodes, in.base, in.half, nodes)
	}
}

// wantArcs: to each node beyond a flower, as far as edges lead there, one arc, which has the least slack.
func wantArcs(t *testing.T, f *forest, in *flower) {
	t.Helper()
	least := map[int32]int64{}
	for _, v := range in.nodes {
		for _, a := range f.leaf[v].arcs {
			if left, told := least[a.to]; !slices.Contains(in.nodes, int(a.to)) && (!told || f.left(a) < left) {
				least[a.to] = f.left(a)
			}
		}
	}
	for _, a := range in.arcs {
		if left, told := least[a.to]; !told || left != f.left(a) || !slices.Contains(in.nodes, int(a.from)) {
			t.Fatalf("%v: the arc %v has slack %d, not %d", in.nodes, a, f.left(a), left)
		}
	}
	if len(in.arcs) != len(least) {
		t.Fatalf("%v: %d arcs to %d nodes", in.nodes, len(in.arcs), len(least))
	}
}

func sameNodes(a, b []int) bool {
	return slices.Equal(slices.Sorted(slices.Values(a)), slices.Sorted(slices.Values(b)))
}

// cheapestLeft: the slack of the cheapest edge between a step's nodes, without what flowers weigh; and is there one?
func cheapestLeft(f *forest, s step) (int64, bool) {
	least, joined := int64(far), false
	for _, a := range f.leaf[s.from].arcs {
		if int(a.to) == s.to {
			least, joined = min(least, f.left(a)), true
		}
	}
	return least, joined
}

// wantTrees: what is said of labels, of weights and of what is known of slacks.
func wantTrees(t *testing.T, f *forest) {
	t.Helper()
	parity := int64(none)
	near := int64(far) // half the least slack between outer flowers
	told := int64(far) // as the flowers know it
	for v, top := range f.top {
		if !slices.Contains(top.nodes, v) || top.within != nil {
			t.Fatalf("%d doesn't lie in its flower", v)
		}
		if top.label != free {
			if parity == none {
				parity = f.weight[v] & 1
			}
			if f.weight[v]&1 != parity {
				t.Fatalf("weight %d of %d beside others that are otherwise odd or even", f.weight[v], v)
			}
		}
		least := int64(far)
		for _, a := range f.leaf[v].arcs {
			to, left := f.top[a.to], f.left(a)
			if to == top {
				continue
			}
			if left < 0 {
				t.Fatalf("the slack of %v is %d", a, left)
			}
			if to.label == outer {
				least = min(least, left)
			}
		}
		switch {
		case top.label == outer:
			told = min(told, top.slack)
			if least < far {
				near = min(near, least/2)
			}
		case least < far && (f.slack[v] != least || f.left(f.over[v]) != least || int(f.over[v].to) != v || f.top[f.over[v].from].label != outer):
			t.Fatalf("to %d the least slack is %d, not %d by %v", v, least, f.slack[v], f.over[v])
		}
		if top.base == v {
			wantFlower(t, f, top, 0)
			wantPlace(t, f, top)
		}
	}
	if near < far && near != told {
		t.Fatalf("half the least slack between outer flowers is %d, not %d", near, told)
	}
}

// wantPlace: a flower is where its label says.
func wantPlace(t *testing.T, f *forest, top *flower) {
	t.Helper()
	mate := f.mate[top.base]
	if mate != none {
		if left, joined := cheapestLeft(f, step{top.base, mate}); !joined || left != 0 || f.mate[mate] != top.base {
			t.Fatalf("%d is matched with %d at slack %d", top.base, mate, left)
		}
	}
	switch {
	case mate == none:
		if top.label != outer || top.root != top.base {
			t.Fatalf("%d isn't matched, but begins no tree", top.base)
		}
	case top.label == free:
		if f.top[mate].label != free {
			t.Fatalf("%d is free, but not whom it is matched with", top.base)
		}
	case top.label == outer:
		if f.top[mate].label != inner || f.top[mate].root != top.root {
			t.Fatalf("%d is outer, but isn't matched with an inner one", top.base)
		}
	default:
		from := f.top[top.entry.from]
		left, joined := cheapestLeft(f, top.entry)
		if from.label != outer || from.root != top.root || f.top[top.entry.to] != top || f.top[mate].label != outer || left != 0 || !joined {
			t.Fatalf("%d is inner, but not come to from an outer one", top.base)
		}
	}
	if top.label == outer && top.slack < far/2 {
		to := f.top[top.near.to]
		if to == top || to.label != outer || f.top[top.near.from] != top || f.left(top.near) != 2*top.slack || top.joins != (to.root != top.root) {
			t.Fatalf("%v leads at %d to no other outer flower", top.near, top.slack)
		}
	}
}

// scattered: a graph that has a circle through all its nodes, with costs of many kinds.
func scattered(row *trial.Scatter, round int) api.Graph {
	nodes := 2 * row.Between(1, 9)
	most := []int{1, 3, 9, 30, api.MaxLabel}[round%5]
	g := row.Small(nodes, row.Between(nodes, 3*nodes), 1, []int{-most, 0, most - 1}[round/5%3], most)
	for v := range nodes {
		g.Edges[v].From, g.Edges[v].To = v, (v+1)%nodes
	}
	return g
}

// product: of some nodes all are joined, at costs by which much is shrunk that must be opened again.
func product(row *trial.Scatter) api.Graph {
	g := api.Graph{Nodes: 2 * row.Between(3, 9)}
	for v := range g.Nodes {
		for u := range v {
			g.Edges = append(g.Edges, api.Edge{From: v, To: u, Cost: int64(u*v + row.Below(3))})
		}
	}
	return g
}

// TestP18EachStepKeepsTheWeightsAProof: from the first one to the last. In the end much must have been shrunk, and much opened.
func TestP18EachStepKeepsTheWeightsAProof(t *testing.T) {
	row := trial.NewScatter(188)
	shrunk, opened := 0, 0
	for round := range 2000 {
		g := scattered(row, round)
		if round%2 == 1 {
			g = product(row)
		}
		f := newForest(g.Nodes)
		for _, e := range g.Edges {
			if e.From != e.To {
				f.join(e.From, e.To, e.Cost)
			}
		}
		f.begin()
		wantBegun(t, f)
		f.plant()
		for slices.Contains(f.mate, none) {
			wantTrees(t, f)
			before := slices.Clone(f.top)
			f.advance()
			for v, top := range f.top {
				switch {
				case top.base != v:
				case len(top.nodes) > len(before[v].nodes):
					shrunk++
				case len(top.nodes) < len(before[v].nodes):
					opened++
				}
			}
		}
		wantTrees(t, f)
		for _, set := range f.duals().Sets {
			if set.Z == 0 {
				t.Fatalf("%v is told without weight", set.Nodes)
			}
		}
	}
	if shrunk < 1000 || opened < 1000 {
		t.Errorf("%d shrunk, %d opened", shrunk, opened)
	}
}

// wantBegun: no slack is below 0, each node has an edge without any, and no such edge is left between two that aren't matched.
func wantBegun(t *testing.T, f *forest) {
	t.Helper()
	for v, leaf := range f.leaf {
		tight := false
		for _, a := range leaf.arcs {
			left := f.left(a)
			tight = tight || left == 0
			if left < 0 || left == 0 && f.mate[v] == none && f.mate[a.to] == none {
				t.Fatalf("the slack of %v is %d, its nodes are matched with %d and %d", a, left, f.mate[v], f.mate[a.to])
			}
		}
		if !tight || f.weight[v]%2 != 0 {
			t.Fatalf("%d begins with weight %d, which leaves slack everywhere or is odd", v, f.weight[v])
		}
	}
}

// TestOneMoreIsMatchedAheadOfAllElse: where an arc to another tree, one to the same tree, one to a free node and a flower without weight ask for no change.
func TestOneMoreIsMatchedAheadOfAllElse(t *testing.T) {
	f := newForest(6)
	for _, v := range []int{1, 2, 3, 1} { // the arc to 2 alone leads to another tree
		f.join(0, v, 0)
	}
	f.join(4, 1, 0)
	f.join(4, 3, 0)
	for v, root := range []int{0, 0, 5, 0, 0} {
		f.leaf[v].label, f.leaf[v].root = outer, root
		f.leaf[v].slack = far
	}
	f.leaf[3].label = free
	f.leaf[4].label, f.leaf[4].petals = inner, []*flower{f.leaf[4]}
	f.leaf[5].label = inner
	f.spread(f.leaf[0])
	f.spread(f.leaf[1])
	if first := f.leaf[0]; first.near.to != 2 || !first.joins || first.slack != 0 || f.leaf[1].joins || f.leaf[1].slack != 0 {
		t.Errorf("to %d, to another tree %v", first.near.to, first.joins)
	}
	for range 2 {
		if v, by := f.next(); v != 0 || by != 0 {
			t.Errorf("at %d, change %d", v, by)
		}
		slices.Reverse(f.leaf[0].arcs) // in whichever order they are looked at
		f.spread(f.leaf[0])
	}
	f.leaf[0].label = inner // the other ones come as the nodes do
	if v, by := f.next(); v != 1 || by != 0 {
		t.Errorf("without it at %d, change %d", v, by)
	}
}

// TestTurnRoundAndRotate: the circle stays the same one.
func TestTurnRoundAndRotate(t *testing.T) {
	var petals []*flower
	for v := range 5 {
		petals = append(petals, &flower{base: v})
	}
	circle := &flower{petals: petals[:1:1]}
	for v := 1; v < 5; v++ {
		circle.reach(step{10*v - 1, 10 * v}, petals[v])
	}
	circle.steps = append(circle.steps, step{49, 0})
	circle.turnRound()
	if got := basesOf(circle); !slices.Equal(got, []int{0, 4, 3, 2, 1}) {
		t.Errorf("turned round: %v", got)
	}
	if want := []step{{0, 49}, {40, 39}, {30, 29}, {20, 19}, {10, 9}}; !slices.Equal(circle.steps, want) {
		t.Errorf("turned round: %v; it should be %v", circle.steps, want)
	}
	circle.rotate(2)
	if got := basesOf(circle); !slices.Equal(got, []int{3, 2, 1, 0, 4}) {
		t.Errorf("rotated: %v", got)
	}
	if want := []step{{30, 29}, {20, 19}, {10, 9}, {0, 49}, {40, 39}}; !slices.Equal(circle.steps, want) {
		t.Errorf("rotated: %v; it should be %v", circle.steps, want)
	}
}

func basesOf(circle *flower) []int {
	var list []int
	for _, petal := range circle.petals {
		list = append(list, petal.base)
	}
	return list
}

// TestP18_1NoMatchingIsWhatLayer17Says: and the set is its set.
func TestP18_1NoMatchingIsWhatLayer17Says(t *testing.T) {
	row := trial.NewScatter(189)
	for range 500 {
		nodes := row.Between(1, 12)
		g := row.Small(nodes, row.Below(2*nodes), 1, -3, 3)
		largest, near, _ := blossom.Solve(g)
		_, _, set, _, code := Solve(g)
		if want := 2*len(largest) < nodes; want != (code == api.ErrNoWay) || want && !slices.Equal(set, near) {
			t.Fatalf("%v: %v, %v; layer 17 answers %v, %v", g, code, set, largest, near)
		}
	}
}
