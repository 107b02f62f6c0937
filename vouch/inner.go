package vouch

import (
	"compass/api"
	"compass/graph"
	"compass/proof"
)

// refusal is what a look gives up with; no other panic has this type, so none is taken for a proof that fails.
type refusal struct {
	code api.Errno
}

// looked: the code that a look at a right graph gives up with; OK, if it comes to its end. All refusals are caught here.
func looked(g api.Graph, look func()) (code api.Errno) {
	defer func() {
		if given := recover(); given != nil {
			code = codeOf(given)
		}
	}()
	wrong := graph.Check(g).Code
	demand(wrong == api.OK, wrong)
	look()
	return api.OK
}

// codeOf: the error of a look that gave up; whatever else was caught is a fault of the program and goes on.
func codeOf(given any) api.Errno {
	r, ok := given.(refusal)
	if !ok {
		panic(given)
	}
	return r.code
}

// demand gives the look up with an error, unless something holds.
func demand(holds bool, otherwise api.Errno) {
	if !holds {
		panic(refusal{code: otherwise})
	}
}

// must: demand, of what no error of its own is named for.
func must(holds bool) { demand(holds, api.ErrProof) }

func isLoop(e api.Edge) bool { return e.From == e.To }

// mustRise: a list must be rising numbers, from 0 on and below end.
func mustRise(list []int, end int) {
	last := -1
	for _, x := range list {
		must(x > last && x < end)
		last = x
	}
}

// members: which nodes a list has.
func members(list []int, nodes int) []bool {
	in := make([]bool, nodes)
	for _, v := range list {
		in[v] = true
	}
	return in
}

func mustMatch(m []int, g api.Graph) {
	mustRise(m, len(g.Edges))
	taken := make([]bool, g.Nodes)
	for _, i := range m {
		e := g.Edges[i]
		must(!isLoop(e) && !taken[e.From] && !taken[e.To])
		taken[e.From], taken[e.To] = true, true
	}
}

// mustBeWeights: they are small enough that no sum with them wraps.
func mustBeWeights(list []int64, nodes int) {
	must(len(list) == nodes)
	for _, x := range list {
		must(x >= -proof.MaxPot && x <= proof.MaxPot)
	}
}

func sumOf(list []int64) int64 {
	var sum int64
	for _, x := range list {
		sum += x
	}
	return sum
}

// costOf: what edges cost together.
func costOf(edges []int, g api.Graph) int64 {
	var sum int64
	for _, i := range edges {
		sum += g.Edges[i].Cost
	}
	return sum
}

// oddParts: how many parts of what is left of a graph without some nodes have an odd number of nodes.
func oddParts(g api.Graph, out []bool) int {
	beside := besides(g)
	come := make([]bool, g.Nodes)
	copy(come, out) // what is left out is never come to, so no part goes on through it
	odd := 0
	for root := range g.Nodes {
		if !come[root] {
			odd += comeToFrom(root, beside, come) % 2
		}
	}
	return odd
}

// besides: for each node those that an edge joins it with.
func besides(g api.Graph) [][]int {
	beside := make([][]int, g.Nodes)
	for _, e := range g.Edges {
		beside[e.From] = append(beside[e.From], e.To)
		beside[e.To] = append(beside[e.To], e.From)
	}
	return beside
}

// comeToFrom: how many nodes can be come to from one and weren't come to yet, itself among them. They are, then.
func comeToFrom(root int, beside [][]int, come []bool) int {
	come[root] = true
	queue := []int{root}
	for at := 0; at < len(queue); at++ {
		for _, v := range beside[queue[at]] {
			if !come[v] {
				come[v] = true
				queue = append(queue, v)
			}
		}
	}
	return len(queue)
}
