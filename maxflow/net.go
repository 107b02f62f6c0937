package maxflow

import (
	"slices"

	"compass/api"
	"compass/proof"
)

// none stands where no arc is.
const none = -1

// net is a flow that becomes greater. Edge i has two arcs: 2i along it, and 2i+1 back along it, by which what is on it is taken off again.
type net struct {
	source, sink int
	end          []int   // the node that each arc leads to; arc a^1 leads to where it begins
	left         []int64 // how much more can be sent along each arc
	out          [][]int // the arcs from each node
	level        []int   // how far each node is from the sink; only what goes nearer by one is sent
	next         []int   // the place in out of the first arc from each node that isn't given up at these levels
}

func newNet(g api.Graph, s, t int) *net {
	n := &net{source: s, sink: t, out: make([][]int, g.Nodes)}
	for i, e := range g.Edges {
		n.end = append(n.end, e.To, e.From)
		n.left = append(n.left, e.Cap, 0)
		if e.From != e.To { // what is sent along a loop comes no nearer
			n.out[e.From] = append(n.out[e.From], 2*i)
			n.out[e.To] = append(n.out[e.To], 2*i+1)
		}
	}
	return n
}

func (n *net) send(a int, x int64) {
	n.left[a] -= x
	n.left[a^1] += x
}

// beyond: a level that is farther than any that a way of fewest arcs has.
func (n *net) beyond() int { return len(n.out) }

// levels: for each node with how many arcs, at least, it is come to from a first one; beyond, if it isn't.
func (n *net) levels(first int, open func(a int) bool) []int {
	level := slices.Repeat([]int{n.beyond()}, len(n.out))
	level[first] = 0
	queue := []int{first}
	for at := 0; at < len(queue); at++ {
		v := queue[at]
		for _, a := range n.out[v] {
			if w := n.end[a]; level[w] == n.beyond() && open(a) {
				level[w] = level[v] + 1
				queue = append(queue, w)
			}
		}
	}
	return level
}

// settle finds the levels anew: is there a way from the source to the sink along which more could go?
func (n *net) settle() bool {
	n.level = n.levels(n.sink, func(a int) bool { return n.left[a^1] > 0 }) // back from the sink, so against the arcs
	n.next = make([]int, len(n.out))
	return n.level[n.source] < n.beyond()
}

// lead: the first arc from v that isn't given up and along which more can go one level nearer; none, if there is no such arc any more.
func (n *net) lead(v int) int {
	for ; n.next[v] < len(n.out[v]); n.next[v]++ {
		a := n.out[v][n.next[v]]
		if n.left[a] > 0 && n.level[v] == n.level[n.end[a]]+1 {
			return a
		}
	}
	return none
}

// on: the amount on edge i.
func (n *net) on(i int) int64 { return n.left[2*i+1] }

func (n *net) flow() proof.Flow {
	f := proof.Flow{Source: n.source, Sink: n.sink, On: make([]int64, len(n.left)/2), Side: make([]bool, len(n.out))}
	for i := range f.On {
		f.On[i] = n.on(i)
	}
	for v, level := range n.levels(n.source, func(a int) bool { return n.left[a] > 0 }) {
		f.Side[v] = level < n.beyond()
	}
	return f
}

// value: how much more goes out of the source than comes into it.
func (n *net) value() int64 {
	var sum int64
	for _, a := range n.out[n.source] {
		if a%2 == 0 {
			sum += n.on(a / 2)
		} else {
			sum -= n.on(a / 2)
		}
	}
	return sum
}
