package vouch

import (
	"math/bits"

	"compass/proof"
)

// mustProve: duals for so many nodes must weigh no pair of those that bounds tells of above its bound, and all together twice the cost. A matching that takes all nodes has at most half of a set's nodes, rounded down, joined within it: so none whose pairs cost half their bounds costs less.
func (d Duals) mustProve(nodes int, cost int64, bounds func(atMost func(u, v int, bound int64))) {
	d.mustBeRight(nodes)
	weight := d.pairWeights(nodes)
	bounds(func(u, v int, bound int64) { must(weight(u, v) <= bound) })
	must(d.sum() == 2*cost)
}

func (d Duals) mustBeRight(nodes int) {
	mustBeWeights(d.Y, nodes)
	must(len(d.Sets) <= nodes)
	for _, set := range d.Sets {
		mustRise(set.Nodes, nodes)
		must(len(set.Nodes) >= 3 && len(set.Nodes)%2 == 1)
		must(set.Z >= 0 && set.Z <= proof.MaxPot)
	}
}

// pairWeights: a function that tells what two nodes weigh: their own weights, less that of each set that has both.
func (d Duals) pairWeights(nodes int) func(u, v int) int64 {
	const width = 64
	words := (len(d.Sets) + width - 1) / width
	in := make([][]uint64, nodes) // a bit for each set: all pairs of many nodes are asked about, so sets without both are passed over by the word
	for v := range in {
		in[v] = make([]uint64, words)
	}
	for s, set := range d.Sets {
		for _, v := range set.Nodes {
			in[v][s/width] |= 1 << (s % width)
		}
	}
	return func(u, v int) int64 {
		weight := d.Y[u] + d.Y[v]
		for k := range words {
			for both := in[u][k] & in[v][k]; both != 0; both &= both - 1 {
				weight -= d.Sets[k*width+bits.TrailingZeros64(both)].Z
			}
		}
		return weight
	}
}

// sum: all weights together, each set's as often as edges of a matching may lie within it. By the limits it is below 2^62.
func (d Duals) sum() int64 {
	sum := sumOf(d.Y)
	for _, set := range d.Sets {
		sum -= set.Z * int64(len(set.Nodes)/2)
	}
	return sum
}
