package maxflow

import "math"

// dinic sends along ways with the fewest arcs till each such way is full, then along longer ones.
type dinic struct{ *net }

func (d *dinic) fill() {
	for d.settle() {
		d.pass(d.source, math.MaxInt64)
	}
}

// pass: how much goes on from v to the sink, at these levels, of what may come to v at most.
func (d *dinic) pass(v int, most int64) int64 {
	if v == d.sink {
		return most
	}
	var passed int64
	for passed < most {
		a := d.lead(v)
		if a == none {
			break
		}
		x := d.pass(d.end[a], min(most-passed, d.left[a]))
		if x == 0 {
			d.next[v]++ // nothing goes on from there any more
		}
		d.send(a, x)
		passed += x
	}
	return passed
}
