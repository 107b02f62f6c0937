package mincost

import (
	"iter"
	"slices"

	"compass/api"
	"compass/heaps"
)

const (
	exact = 1                // the slack at which whole costs are as they are
	wide  = 2 * api.MaxLabel // one at which no cost matters
	step  = api.MaxNodes     // more than a way has arcs: so a length tells the cost from the number of arcs
	far   = 1 << 62          // beyond all lengths
)

// stuck is what is given up with: the side from which nothing can be sent on. No other panic has this type.
type stuck struct{ side []bool }

// sideOf: the side that was given up with; whatever else was caught is a fault of the program and goes on.
func sideOf(given any) []bool {
	s, ok := given.(stuck)
	if !ok {
		panic(given)
	}
	return s.side
}

// halves: a first number, and half as much each time, to 1.
func halves(first int64) iter.Seq[int64] {
	return func(take func(int64) bool) {
		for x := first; x > 0 && take(x); x /= 2 {
		}
	}
}

// refine makes the reduced costs of all open arcs come above -slack, and sends on what is too much, as long as that can go at this grain; it gives up where not even 1 can. What is sent goes along ways that are cheapest as far as the slack tells costs apart. It divides them toward 0: when the potentials are raised by what the ways cost then, no arc comes to -slack or below it, neither along the ways nor back.
func (n *net) refine(slack int64) {
	n.fill(slack)
	length := func(a int) int64 { return n.reduced(a)/slack*step + 1 }
	dist := n.lengths(length)
	for n.comesToWanting(dist) {
		n.sendOn(dist, length)
		for v, d := range dist {
			if d < far {
				n.pot[v] += d / step * slack
			}
		}
		dist = n.lengths(length)
	}
	if n.grain == 1 {
		demandNone(dist)
	}
}

// fill fills the arcs that aren't dear enough.
func (n *net) fill(slack int64) {
	for _, arcs := range n.out {
		for _, a := range arcs {
			if n.open(a) && n.reduced(a) <= -slack {
				n.send(a, n.left[a])
			}
		}
	}
}

// lengths: for each node the least length of a way to it, along open arcs, from any node that has something to send on; far, if there is none.
func (n *net) lengths(length func(a int) int64) []int64 {
	dist := slices.Repeat([]int64{far}, len(n.out))
	queue, _ := heaps.New(heaps.Binary, len(n.out)) // a right graph has no more nodes than a queue may have handles
	come := func(v int, d int64) {
		if d >= dist[v] {
			return
		}
		dist[v] = d
		if queue.Push(v, d) == api.ErrHeld {
			queue.Lower(v, d)
		}
	}
	for v, over := range n.over {
		if over >= n.grain {
			come(v, 0)
		}
	}
	for queue.Len() > 0 {
		v, d, _ := queue.Pop()
		for _, a := range n.out[v] {
			if n.open(a) {
				come(n.end[a], d+length(a))
			}
		}
	}
	return dist
}

// wants: has as much yet to come to v as is sent at once?
func (n *net) wants(v int) bool { return n.over[v] <= -n.grain }

func (n *net) comesToWanting(dist []int64) bool {
	for v, d := range dist {
		if d < far && n.wants(v) {
			return true
		}
	}
	return false
}

// demandNone gives up, if a node has still something to send on. The side is what is come to from such nodes: no more can leave it, and none of it wants anything, so that more is supplied on it than can leave it at all.
func demandNone(dist []int64) {
	side := make([]bool, len(dist))
	for v, d := range dist {
		side[v] = d < far
	}
	if slices.Contains(side, true) {
		panic(stuck{side})
	}
}

// sendOn sends along ways of the least lengths till each of them is full. No length is 0, so none of them goes round.
func (n *net) sendOn(dist []int64, length func(a int) int64) {
	next := make([]int, len(n.out))
	leads := func(a int) bool {
		return n.open(a) && dist[n.end[a]] == dist[n.begin(a)]+length(a)
	}
	for v := range n.out {
		for n.over[v] >= n.grain {
			way := n.search(v, next, leads)
			if len(way) == 0 {
				break
			}
			last := n.end[way[len(way)-1]]
			n.sendAlong(way, min(n.over[v], -n.over[last]))
		}
	}
}

// search: arcs that lead on from v to a node that wants something; none, if there is no such way. The arcs of a node that stand ahead of next are given up: none of them leads there any more.
func (n *net) search(v int, next []int, leads func(a int) bool) []int {
	var way []int
search:
	for !n.wants(v) {
		for ; next[v] < len(n.out[v]); next[v]++ {
			if a := n.out[v][next[v]]; leads(a) {
				way = append(way, a)
				v = n.end[a]
				continue search
			}
		}
		last := len(way) - 1
		if last < 0 {
			break
		}
		v = n.begin(way[last])
		way = way[:last]
		next[v]++
	}
	return way
}
