package proof

import (
	"compass/api"
	"compass/graph"
)

// refusal is what a look gives up with; no other panic has this type, so none is taken for a proof that fails.
type refusal struct {
	code api.Errno
}

// looked: the code that a look at a right graph gives up with; OK, if it comes to its end. All refusals are caught here.
func looked(g api.Graph, look func()) (code api.Errno) {
	defer func() {
		if given := recover(); given != nil {
			code = codeOf(given)
		}
	}()
	wrong := graph.Check(g).Code
	demand(wrong == api.OK, wrong)
	look()
	return api.OK
}

// codeOf: the error of a look that gave up; whatever else was caught is a fault of the program and goes on.
func codeOf(given any) api.Errno {
	r, ok := given.(refusal)
	if !ok {
		panic(given)
	}
	return r.code
}

// demand gives the look up with an error, unless something holds.
func demand(holds bool, otherwise api.Errno) {
	if !holds {
		panic(refusal{code: otherwise})
	}
}

// must: demand, of what no error of its own is named for.
func must(holds bool) { demand(holds, api.ErrProof) }

func isNode(v int, g api.Graph) bool { return v >= 0 && v < g.Nodes }

// mustFit: amounts, one for each edge, must be within the capacities.
func mustFit(on []int64, g api.Graph) {
	must(len(on) == len(g.Edges))
	for i, e := range g.Edges {
		must(on[i] >= 0 && on[i] <= e.Cap)
	}
}

// mustBePotentials: they are small enough that no sum with them wraps.
func mustBePotentials(pot []int64, g api.Graph) {
	must(len(pot) == g.Nodes)
	for _, p := range pot {
		must(p >= -MaxPot && p <= MaxPot)
	}
}

func demandSupplies(supply []int64, g api.Graph) {
	demand(len(supply) == g.Nodes, api.ErrSupply)
	var sum int64
	for _, s := range supply {
		demand(s >= -api.MaxLabel && s <= api.MaxLabel, api.ErrSupply)
		sum += s
	}
	demand(sum == 0, api.ErrSupply)
}

// mustBeCircle: each edge must begin where the one ahead of it ends, the first one where the last one ends, and no two at one node.
func mustBeCircle(circle []int, g api.Graph) {
	must(len(circle) > 0)
	for _, i := range circle {
		must(i >= 0 && i < len(g.Edges))
	}
	begun := make([]bool, g.Nodes)
	at := g.Edges[circle[len(circle)-1]].To
	for _, i := range circle {
		e := g.Edges[i]
		must(e.From == at && !begun[at])
		begun[at] = true
		at = e.To
	}
}

// mustHangTogether: all edges must lie in one part, whichever way they go. Nodes without an edge may lie anywhere.
func mustHangTogether(g api.Graph) {
	if len(g.Edges) == 0 {
		return
	}
	part := partOf(g.Edges[0].From, g)
	for _, e := range g.Edges {
		must(part[e.From])
	}
}

// partOf: which nodes can be come to from one, along edges taken either way.
func partOf(start int, g api.Graph) []bool {
	beside := make([][]int, g.Nodes)
	for _, e := range g.Edges {
		beside[e.From] = append(beside[e.From], e.To)
		beside[e.To] = append(beside[e.To], e.From)
	}
	in := make([]bool, g.Nodes)
	in[start] = true
	queue := []int{start}
	for at := 0; at < len(queue); at++ {
		for _, v := range beside[queue[at]] {
			if !in[v] {
				in[v] = true
				queue = append(queue, v)
			}
		}
	}
	return in
}

// surplus: how much more goes out of each node than comes into it.
func surplus(on []int64, g api.Graph) []int64 {
	more := make([]int64, g.Nodes)
	for i, e := range g.Edges {
		more[e.From] += on[i]
		more[e.To] -= on[i]
	}
	return more
}

// leaving: the capacities of the edges from a side to off it, together.
func leaving(side []bool, g api.Graph) int64 {
	var sum int64
	for _, e := range g.Edges {
		if side[e.From] && !side[e.To] {
			sum += e.Cap
		}
	}
	return sum
}

// reduced: what an edge costs beyond what the potentials of its ends allow for.
func reduced(e api.Edge, pot []int64) int64 { return e.Cost + pot[e.From] - pot[e.To] }

// costOf: what amounts cost together. They are at most MaxLabel each, so that nothing wraps.
func costOf(amounts []int64, g api.Graph) int64 {
	var sum int64
	for i, e := range g.Edges {
		sum += e.Cost * amounts[i]
	}
	return sum
}
