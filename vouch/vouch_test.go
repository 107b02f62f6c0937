package vouch_test

import (
	"math"
	"slices"
	"testing"

	"compass/api"
	"compass/proof"
	"compass/trial"
	"compass/vouch"
	"compass/walk"
)

// far: numbers that are nothing within the limits.
func far() []int64 { return []int64{math.MinInt64, -1 << 62, 1 << 62, math.MaxInt64} }

// priced: edges with their costs.
func priced(nodes int, edges ...[3]int) api.Graph {
	g := api.Graph{Nodes: nodes}
	for _, e := range edges {
		g.Edges = append(g.Edges, api.Edge{From: e[0], To: e[1], Cost: int64(e[2])})
	}
	return g
}

// joined: edges without costs.
func joined(nodes int, pairs ...[2]int) api.Graph {
	g := api.Graph{Nodes: nodes}
	for _, p := range pairs {
		g.Edges = append(g.Edges, api.Edge{From: p[0], To: p[1]})
	}
	return g
}

func upTo(n int) []int {
	list := make([]int, n)
	for i := range list {
		list[i] = i
	}
	return list
}

// rises: is it a list of rising numbers from 0 on, below n?
func rises(list []int, n int) bool {
	for k, x := range list {
		if x < 0 || x >= n || k > 0 && x <= list[k-1] {
			return false
		}
	}
	return true
}

func isLoop(e api.Edge) bool { return e.From == e.To }

// endsAt: how many ends of these edges lie at a node.
func endsAt(g api.Graph, edges []int, v int) int {
	count := 0
	for _, i := range edges {
		if g.Edges[i].From == v {
			count++
		}
		if g.Edges[i].To == v {
			count++
		}
	}
	return count
}

// takes: is it a list of edges, none a loop, with at most as many at each node as told?
func takes(g api.Graph, list []int, most func(v int) int) bool {
	if !rises(list, len(g.Edges)) {
		return false
	}
	for v := range g.Nodes {
		if endsAt(g, list, v) > most(v) {
			return false
		}
	}
	return !slices.ContainsFunc(list, func(i int) bool { return isLoop(g.Edges[i]) })
}

func matches(g api.Graph, list []int) bool { return takes(g, list, func(int) int { return 1 }) }

func costOf(g api.Graph, edges []int) int64 {
	var sum int64
	for _, i := range edges {
		sum += g.Edges[i].Cost
	}
	return sum
}

// mostEdges: of the matchings with the most edges how many that is.
func mostEdges(g api.Graph) int {
	most := 0
	for m := range trial.Subsets(len(g.Edges)) {
		if matches(g, m) {
			most = max(most, len(m))
		}
	}
	return most
}

// twoSided: can the nodes be parted so that each edge that is no loop goes over?
func twoSided(g api.Graph) bool {
	for side := range trial.Sides(g.Nodes) {
		if !slices.ContainsFunc(g.Edges, func(e api.Edge) bool { return !isLoop(e) && side[e.From] == side[e.To] }) {
			return true
		}
	}
	return false
}

// oddWithout: the odd parts without a set of nodes, by layer 4's Parts of the graph that is left.
func oddWithout(g api.Graph, set []int) int {
	number := make(map[int]int)
	for v := range g.Nodes {
		if !slices.Contains(set, v) {
			number[v] = len(number)
		}
	}
	left := api.Graph{Nodes: len(number)}
	for _, e := range g.Edges {
		from, isFrom := number[e.From]
		to, isTo := number[e.To]
		if isFrom && isTo {
			left.Edges = append(left.Edges, api.Edge{From: from, To: to})
		}
	}
	parts, _ := walk.Parts(left)
	size := make([]int, left.Nodes)
	for _, part := range parts {
		size[part]++
	}
	odd := 0
	for _, nodes := range size {
		odd += nodes % 2
	}
	return odd
}

func TestP12TheChaptersExamples(t *testing.T) {
	g := priced(2, [3]int{0, 1, 2})
	if n, code := vouch.Covered(g, []int{0}, []int{1}); n != 1 || code != api.OK {
		t.Errorf("Covered: %d, %v", n, code)
	}
	if cost, code := vouch.Heaviest(g, []int{0}, []int64{2, 0}); cost != 2 || code != api.OK {
		t.Errorf("Heaviest: %d, %v", cost, code)
	}
	if n, code := vouch.Largest(g, []int{0}, nil); n != 1 || code != api.OK {
		t.Errorf("Largest: %d, %v", n, code)
	}
	if cost, code := vouch.Cheapest(g, []int{0}, vouch.Duals{Y: []int64{3, 1}}); cost != 2 || code != api.OK {
		t.Errorf("Cheapest: %d, %v", cost, code)
	}
	if h, code := vouch.Gadget(g, []int{1, 1}); h.Nodes != 4 || len(h.Edges) != 3 || code != api.OK {
		t.Errorf("Gadget: %v, %v", h, code)
	}
	w := vouch.Metric{Dist: [][]int64{{0, 2}, {2, 0}}, Duals: vouch.Duals{Y: []int64{2, 2}}}
	if cost, code := vouch.Doubled(g, []int{0}, w); cost != 4 || code != api.OK {
		t.Errorf("Doubled: %d, %v", cost, code)
	}
}

func TestP12_1Matching(t *testing.T) {
	g := joined(5, [2]int{0, 1}, [2]int{1, 2}, [2]int{2, 3}, [2]int{4, 4}, [2]int{1, 0}, [2]int{3, 4})
	for _, c := range []struct {
		m    []int
		code api.Errno
	}{
		{nil, api.OK}, {[]int{}, api.OK}, {[]int{0}, api.OK}, {[]int{0, 2}, api.OK}, {[]int{1, 5}, api.OK}, {[]int{4, 5}, api.OK},
		{[]int{2, 0}, api.ErrProof}, {[]int{0, 0}, api.ErrProof}, {[]int{0, 1}, api.ErrProof}, {[]int{1, 2}, api.ErrProof},
		{[]int{2, 5}, api.ErrProof}, {[]int{0, 4}, api.ErrProof}, {[]int{3}, api.ErrProof}, {[]int{0, 3}, api.ErrProof},
		{[]int{-1}, api.ErrProof}, {[]int{6}, api.ErrProof}, {[]int{0, 6}, api.ErrProof},
		{[]int{math.MinInt}, api.ErrProof}, {[]int{0, math.MaxInt}, api.ErrProof},
	} {
		if code := vouch.Matching(g, c.m); code != c.code {
			t.Errorf("Matching of %v: %v; it should be %v", c.m, code, c.code)
		}
	}
	if vouch.Matching(api.Graph{}, nil) != api.OK || vouch.Matching(api.Graph{}, []int{0}) != api.ErrProof {
		t.Error("without nodes")
	}
}

// eachSmall: scattered graphs, with loops and several edges between two nodes.
func eachSmall(seed uint64, count, nodes, edges, leastCost, mostCost int, look func(api.Graph)) {
	row := trial.NewScatter(seed)
	for range count {
		look(row.Small(row.Between(1, nodes), row.Below(edges+1), 1, leastCost, mostCost))
	}
}

func TestP12_1MatchingAllSmall(t *testing.T) {
	eachSmall(81, 200, 5, 4, 0, 0, func(g api.Graph) {
		for length := range 4 {
			for m := range trial.Lists(length, -1, len(g.Edges)) {
				want := api.ErrProof
				if matches(g, m) {
					want = api.OK
				}
				if code := vouch.Matching(g, m); code != want {
					t.Fatalf("%v: Matching of %v: %v; it should be %v", g, m, code, want)
				}
			}
		}
	})
}

func TestP12_1CoveredRefuses(t *testing.T) {
	g := joined(6, [2]int{0, 2}, [2]int{2, 1}, [2]int{1, 3}, [2]int{5, 5})
	for _, c := range []struct {
		name     string
		m, cover []int
		n        int
		code     api.Errno
	}{
		{"as it must be", []int{0, 2}, []int{1, 2}, 2, api.OK},
		{"other nodes", []int{0, 2}, []int{2, 3}, 2, api.OK},
		{"an edge without", []int{0, 2}, []int{0, 3}, 0, api.ErrProof},
		{"more nodes than edges", []int{0, 2}, []int{1, 2, 4}, 0, api.ErrProof},
		{"more edges than nodes", []int{0, 2}, []int{2}, 0, api.ErrProof},
		{"a matching that isn't largest", []int{1}, []int{1, 2}, 0, api.ErrProof},
		{"no matching", []int{0, 1}, []int{1, 2}, 0, api.ErrProof},
		{"edges that don't rise", []int{2, 0}, []int{1, 2}, 0, api.ErrProof},
		{"a loop", []int{0, 3}, []int{1, 2}, 0, api.ErrProof},
		{"nodes that don't rise", []int{0, 2}, []int{2, 1}, 0, api.ErrProof},
		{"a node twice", []int{0, 2}, []int{2, 2}, 0, api.ErrProof},
		{"a node below 0", []int{0, 2}, []int{-1, 2}, 0, api.ErrProof},
		{"no such node", []int{0, 2}, []int{2, 6}, 0, api.ErrProof},
		{"nothing", nil, nil, 0, api.ErrProof},
	} {
		if n, code := vouch.Covered(g, c.m, c.cover); n != c.n || code != c.code {
			t.Errorf("%s: %d, %v; it should be %d, %v", c.name, n, code, c.n, c.code)
		}
	}
	for _, g := range []api.Graph{{}, {Nodes: 3}, joined(2, [2]int{1, 1})} {
		if n, code := vouch.Covered(g, nil, nil); n != 0 || code != api.OK {
			t.Errorf("%v: %d, %v", g, n, code)
		}
	}
}

// TestP12_1CoveredAllSmall: what is taken is a largest matching; between two sides each of them is.
func TestP12_1CoveredAllSmall(t *testing.T) {
	eachSmall(82, 400, 5, 5, 0, 0, func(g api.Graph) {
		most, sides := mostEdges(g), twoSided(g)
		for m := range trial.Subsets(len(g.Edges)) {
			proved := false
			for cover := range trial.Subsets(g.Nodes) {
				covers := !slices.ContainsFunc(g.Edges, func(e api.Edge) bool {
					return !isLoop(e) && !slices.Contains(cover, e.From) && !slices.Contains(cover, e.To)
				})
				want, wantCode := 0, api.ErrProof
				if matches(g, m) && len(m) == len(cover) && covers {
					want, wantCode, proved = most, api.OK, true
				}
				if n, code := vouch.Covered(g, m, cover); n != want || code != wantCode {
					t.Fatalf("%v: Covered of %v, %v: %d, %v; it should be %d, %v", g, m, cover, n, code, want, wantCode)
				}
			}
			if sides && proved != (matches(g, m) && len(m) == most) {
				t.Fatalf("%v: %v is proved largest: %v", g, m, proved)
			}
		}
	})
}

func TestP12_1HeaviestRefuses(t *testing.T) {
	g := priced(5, [3]int{0, 2, 3}, [3]int{2, 1, 7}, [3]int{1, 3, 3}, [3]int{4, 4, 99})
	for _, c := range []struct {
		name string
		m    []int
		pot  []int64
		cost int64
		code api.Errno
	}{
		{"as it must be", []int{1}, []int64{0, 3, 4, 0, 0}, 7, api.OK},
		{"other weights", []int{1}, []int64{0, 4, 3, 0, 0}, 7, api.OK},
		{"weights of others", []int{1}, []int64{0, 0, 7, 0, 0}, 0, api.ErrProof},
		{"an edge too heavy by one", []int{1}, []int64{1, 3, 2, 1, 0}, 0, api.ErrProof},
		{"more weight than need be", []int{1}, []int64{0, 4, 4, 0, 0}, 0, api.ErrProof},
		{"weight off the matching", []int{1}, []int64{0, 3, 4, 0, 1}, 0, api.ErrProof},
		{"a weight below 0", []int{1}, []int64{0, 4, 4, 0, -1}, 0, api.ErrProof},
		{"the lighter matching", []int{0, 2}, []int64{0, 3, 3, 0, 0}, 0, api.ErrProof},
		{"no matching", []int{0, 1}, []int64{0, 5, 5, 0, 0}, 0, api.ErrProof},
		{"a loop", []int{3}, []int64{0, 3, 4, 0, 92}, 0, api.ErrProof},
		{"no such edge", []int{4}, []int64{0, 3, 4, 0, 0}, 0, api.ErrProof},
		{"no weights", []int{1}, nil, 0, api.ErrProof},
		{"a weight too few", []int{1}, []int64{0, 3, 4, 0}, 0, api.ErrProof},
		{"a weight too many", []int{1}, []int64{0, 3, 4, 0, 0, 0}, 0, api.ErrProof},
	} {
		if cost, code := vouch.Heaviest(g, c.m, c.pot); cost != c.cost || code != c.code {
			t.Errorf("%s: %d, %v; it should be %d, %v", c.name, cost, code, c.cost, c.code)
		}
	}
	below := priced(2, [3]int{0, 1, -5}, [3]int{1, 0, 0})
	if cost, code := vouch.Heaviest(below, nil, []int64{0, 0}); cost != 0 || code != api.OK {
		t.Errorf("no edge is worth taking: %d, %v", cost, code)
	}
	if cost, code := vouch.Heaviest(below, []int{1}, []int64{0, 0}); cost != 0 || code != api.OK {
		t.Errorf("an edge that costs nothing: %d, %v", cost, code)
	}
	if cost, code := vouch.Heaviest(below, []int{0}, []int64{-5, 0}); cost != 0 || code != api.ErrProof {
		t.Errorf("an edge below nothing: %d, %v", cost, code)
	}
}

// TestP12_1HeaviestAllSmall: what is taken is a heaviest matching; between two sides each of them is.
func TestP12_1HeaviestAllSmall(t *testing.T) {
	eachSmall(83, 150, 4, 4, -1, 2, func(g api.Graph) {
		best, sides := int64(0), twoSided(g)
		for m := range trial.Subsets(len(g.Edges)) {
			if matches(g, m) {
				best = max(best, costOf(g, m))
			}
		}
		for m := range trial.Subsets(len(g.Edges)) {
			proved := false
			for pot := range trial.Lists[int64](g.Nodes, -1, 2) {
				cost, code := vouch.Heaviest(g, m, pot)
				if code == api.OK && cost == best && slices.Min(pot) >= 0 {
					proved = true
				} else if code != api.ErrProof || cost != 0 {
					t.Fatalf("%v: Heaviest of %v, %v: %d, %v; the greatest is %d", g, m, pot, cost, code, best)
				}
			}
			best := matches(g, m) && costOf(g, m) == best
			if sides && proved != best || proved && !best {
				t.Fatalf("%v: %v is proved heaviest: %v", g, m, proved)
			}
		}
	})
}

func TestP12_2LargestRefuses(t *testing.T) {
	// A circle of five nodes, a sixth joined to one of them; and three nodes joined to node 6 alone.
	g := joined(10, [2]int{0, 1}, [2]int{1, 2}, [2]int{2, 3}, [2]int{3, 4}, [2]int{4, 0}, [2]int{5, 0},
		[2]int{7, 6}, [2]int{6, 8}, [2]int{9, 6}, [2]int{9, 9})
	for _, c := range []struct {
		name   string
		m, set []int
		n      int
		code   api.Errno
	}{
		{"as it must be", []int{1, 3, 5, 6}, []int{6}, 4, api.OK},
		{"another matching", []int{1, 3, 5, 8}, []int{6}, 4, api.OK},
		{"no nodes", []int{1, 3, 5, 6}, nil, 0, api.ErrProof},
		{"nodes that prove nothing", []int{1, 3, 5, 6}, []int{1, 2, 6}, 0, api.ErrProof},
		{"a node more", []int{1, 3, 5, 6}, []int{0, 6}, 4, api.OK},
		{"a smaller matching", []int{1, 3, 5}, []int{6}, 0, api.ErrProof},
		{"no matching", []int{1, 2, 5, 6}, []int{6}, 0, api.ErrProof},
		{"a loop", []int{1, 3, 5, 9}, []int{6}, 0, api.ErrProof},
		{"edges that don't rise", []int{3, 1, 5, 6}, []int{6}, 0, api.ErrProof},
		{"a node twice", []int{1, 3, 5, 6}, []int{6, 6}, 0, api.ErrProof},
		{"nodes that don't rise", []int{1, 3, 5, 6}, []int{6, 0}, 0, api.ErrProof},
		{"a node below 0", []int{1, 3, 5, 6}, []int{-1, 6}, 0, api.ErrProof},
		{"no such node", []int{1, 3, 5, 6}, []int{6, 10}, 0, api.ErrProof},
		{"no such edge", []int{1, 3, 5, 10}, []int{6}, 0, api.ErrProof},
	} {
		if n, code := vouch.Largest(g, c.m, c.set); n != c.n || code != c.code {
			t.Errorf("%s: %d, %v; it should be %d, %v", c.name, n, code, c.n, c.code)
		}
	}
	for nodes := range 4 {
		if n, code := vouch.Largest(api.Graph{Nodes: nodes}, nil, nil); n != 0 || code != api.OK {
			t.Errorf("%d nodes alone: %d, %v", nodes, n, code)
		}
	}
}

func TestP12_2NoPerfectRefuses(t *testing.T) {
	g := joined(4, [2]int{0, 1}, [2]int{2, 0}, [2]int{0, 3}, [2]int{3, 3})
	for _, c := range []struct {
		name string
		set  []int
		code api.Errno
	}{
		{"as it must be", []int{0}, api.OK},
		{"no nodes", nil, api.ErrProof},
		{"a wrong one", []int{1}, api.ErrProof},
		{"as many parts as nodes", []int{0, 1}, api.ErrProof},
		{"all nodes", []int{0, 1, 2, 3}, api.ErrProof},
		{"a node twice", []int{0, 0}, api.ErrProof},
		{"a node below 0", []int{-1, 0}, api.ErrProof},
		{"no such node", []int{0, 4}, api.ErrProof},
		{"far numbers", []int{math.MinInt, math.MaxInt}, api.ErrProof},
	} {
		if code := vouch.NoPerfect(g, c.set); code != c.code {
			t.Errorf("%s: %v; it should be %v", c.name, code, c.code)
		}
	}
	if vouch.NoPerfect(api.Graph{}, nil) != api.ErrProof || vouch.NoPerfect(api.Graph{Nodes: 1}, nil) != api.OK {
		t.Error("one node can't be matched, none can")
	}
	if vouch.NoPerfect(joined(3, [2]int{0, 1}, [2]int{1, 2}), nil) != api.OK {
		t.Error("an odd part of three")
	}
}

// TestP12_2AllSmall: just the largest matchings are taken, each with some set; and sets that show that no matching takes all nodes just where none does.
func TestP12_2AllSmall(t *testing.T) {
	eachSmall(84, 500, 6, 6, 0, 0, func(g api.Graph) {
		most := mostEdges(g)
		none := false
		for set := range trial.Subsets(g.Nodes) {
			want := api.ErrProof
			if oddWithout(g, set) > len(set) {
				want, none = api.OK, true
			}
			if code := vouch.NoPerfect(g, set); code != want {
				t.Fatalf("%v: NoPerfect of %v: %v; it should be %v", g, set, code, want)
			}
		}
		if none != (2*most < g.Nodes) {
			t.Fatalf("%v: it is proved that no matching takes all nodes: %v; %d edges can be matched", g, none, most)
		}
		for m := range trial.Subsets(len(g.Edges)) {
			proved := false
			for set := range trial.Subsets(g.Nodes) {
				want, wantCode := 0, api.ErrProof
				if matches(g, m) && 2*len(m) == g.Nodes+len(set)-oddWithout(g, set) {
					want, wantCode, proved = most, api.OK, true
				}
				if n, code := vouch.Largest(g, m, set); n != want || code != wantCode {
					t.Fatalf("%v: Largest of %v, %v: %d, %v; it should be %d, %v", g, m, set, n, code, want, wantCode)
				}
			}
			if proved != (matches(g, m) && len(m) == most) {
				t.Fatalf("%v: %v is proved largest: %v", g, m, proved)
			}
		}
	})
}

// TestP12_2FullGraphs: as many nodes as there may be: one behind the other, as a star, alone.
func TestP12_2FullGraphs(t *testing.T) {
	const n = api.MaxNodes
	chain, star := api.Graph{Nodes: n}, api.Graph{Nodes: n}
	var each []int
	for v := range n - 1 {
		chain.Edges = append(chain.Edges, api.Edge{From: v + 1, To: v})
		star.Edges = append(star.Edges, api.Edge{From: 5, To: v}) // one is a loop
		if v%2 == 0 {
			each = append(each, v)
		}
	}
	if count, code := vouch.Largest(chain, each, nil); count != n/2 || code != api.OK {
		t.Errorf("Largest of a chain: %d, %v", count, code)
	}
	odd := make([]int, 0, n/2)
	for v := 1; v < n; v += 2 {
		odd = append(odd, v)
	}
	if count, code := vouch.Covered(chain, each, odd); count != n/2 || code != api.OK {
		t.Errorf("Covered of a chain: %d, %v", count, code)
	}
	if count, code := vouch.Largest(star, []int{7}, []int{5}); count != 1 || code != api.OK {
		t.Errorf("Largest of a star: %d, %v", count, code)
	}
	if code := vouch.NoPerfect(star, []int{5}); code != api.OK {
		t.Errorf("NoPerfect of a star: %v", code)
	}
	if code := vouch.NoPerfect(api.Graph{Nodes: n}, upTo(n/2-1)); code != api.OK {
		t.Errorf("NoPerfect of nodes alone: %v", code)
	}
	if code := vouch.NoPerfect(api.Graph{Nodes: n}, upTo(n/2)); code != api.ErrProof {
		t.Errorf("NoPerfect of nodes alone, half of them left out: %v", code)
	}
}

// limits: weights that are taken, and others.
func limits() map[int64]bool {
	return map[int64]bool{0: true, proof.MaxPot: true, -proof.MaxPot: true, proof.MaxPot + 1: false, -proof.MaxPot - 1: false,
		math.MaxInt64: false, math.MinInt64: false}
}

// TestP12_1WeightsThatWrap: sums that would come to what is right by wrapping are refused.
func TestP12_1WeightsThatWrap(t *testing.T) {
	g := priced(4, [3]int{0, 1, 2})
	for _, pot := range [][]int64{
		{2, 0, math.MaxInt64, math.MinInt64 + 1}, {2, 0, -1 << 62, 1 << 62}, {1 << 62, 1 << 62, 1 << 62, 1<<62 + 2},
		{2, 0, proof.MaxPot + 1, -proof.MaxPot - 1}, {2, 0, proof.MaxPot, -proof.MaxPot},
	} {
		if cost, code := vouch.Heaviest(g, []int{0}, pot); cost != 0 || code != api.ErrProof {
			t.Errorf("Heaviest with %v: %d, %v", pot, cost, code)
		}
	}
	for _, x := range far() {
		if cost, code := vouch.Heaviest(g, []int{0}, []int64{x, 2 - x, 0, 0}); cost != 0 || code != api.ErrProof {
			t.Errorf("Heaviest with %d: %d, %v", x, cost, code)
		}
	}
}
