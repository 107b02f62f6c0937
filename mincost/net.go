package mincost

import (
	"slices"

	"compass/api"
	"compass/proof"
)

// none stands where no arc is.
const none = -1

// net is amounts that come to meet the supplies. Edge i has two arcs: 2i along it, and 2i+1 back along it, by which what is on it is taken off again.
type net struct {
	end   []int   // the node that each arc leads to; arc a^1 leads to where it begins
	left  []int64 // how much more can be sent along each arc
	cost  []int64 // of one more along each arc: back along an edge, what is spared
	out   [][]int // the arcs from each node, but for those of loops
	over  []int64 // how much each node has yet to send on; below 0, how much has yet to come to it
	pot   []int64 // a potential of each node
	grain int64   // less isn't sent at once; at the end it is 1
}

func newNet(g api.Graph, supply []int64) *net {
	n := &net{out: make([][]int, g.Nodes), over: slices.Clone(supply), pot: make([]int64, g.Nodes), grain: 1}
	for i, e := range g.Edges {
		n.end = append(n.end, e.To, e.From)
		n.left = append(n.left, e.Cap, 0)
		n.cost = append(n.cost, e.Cost, -e.Cost)
		switch {
		case e.From != e.To:
			n.out[e.From] = append(n.out[e.From], 2*i)
			n.out[e.To] = append(n.out[e.To], 2*i+1)
		case e.Cost < 0: // what is on a loop meets no supply: it is full, if that spares something, or empty
			n.send(2*i, e.Cap)
		}
	}
	return n
}

func (n *net) begin(a int) int { return n.end[a^1] }

// open: can as much be sent along an arc as is sent at once?
func (n *net) open(a int) bool { return n.left[a] >= n.grain }

func (n *net) send(a int, x int64) {
	n.left[a] -= x
	n.left[a^1] += x
	n.over[n.begin(a)] -= x
	n.over[n.end[a]] += x
}

// sendAlong sends along arcs that hang together as much as all of them take, but no more than most.
func (n *net) sendAlong(arcs []int, most int64) {
	for _, a := range arcs {
		most = min(most, n.left[a])
	}
	for _, a := range arcs {
		n.send(a, most)
	}
}

// reduced: what an arc costs beyond what the potentials of its ends allow for.
func (n *net) reduced(a int) int64 { return n.cost[a] + n.pot[n.begin(a)] - n.pot[n.end[a]] }

// relax takes each open arc once: where it makes the potential of its end less, that is so from then on, and the arc is told. Was there such an arc?
func (n *net) relax(tell func(a int)) bool {
	found := false
	for _, arcs := range n.out {
		for _, a := range arcs {
			if n.open(a) && n.reduced(a) < 0 {
				n.pot[n.end[a]] += n.reduced(a)
				tell(a)
				found = true
			}
		}
	}
	return found
}

// plan can be asked for when no circle of open arcs costs less than nothing. Whatever the potentials were, they are found anew: as the least costs of ways, which are small.
func (n *net) plan(supply []int64) proof.Plan {
	clear(n.pot)
	for n.relax(func(int) {}) {
	}
	on := make([]int64, len(n.left)/2)
	for i := range on {
		on[i] = n.on(i)
	}
	return proof.Plan{Supply: slices.Clone(supply), On: on, Pot: n.pot}
}

// price: what all amounts cost together.
func (n *net) price() int64 {
	var sum int64
	for i := range len(n.left) / 2 {
		sum += n.cost[2*i] * n.on(i)
	}
	return sum
}

// on: the amount on edge i.
func (n *net) on(i int) int64 { return n.left[2*i+1] }
