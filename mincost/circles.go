package mincost

import (
	"math"
	"slices"

	"compass/api"
)

// circles meets the supplies somehow and sends round circles that cost less than nothing till there is none.
type circles struct {
	*net
	via []int // the arc by which each node's potential became less; none, if it didn't since something was sent
}

func newCircles(n *net) *circles {
	c := &circles{n, make([]int, len(n.out))}
	c.forget()
	return c
}

// meet takes the circles first along which much can be sent: else the same few arcs may be filled and emptied again and again, by 1 each time.
func (c *circles) meet() {
	c.refine(wide)
	for c.grain = range halves(api.MaxLabel) {
		for c.relax(func(a int) { c.via[c.end[a]] = a }) {
			if c.turn() {
				c.forget()
			}
		}
	}
}

func (c *circles) forget() {
	for v := range c.via {
		c.via[v] = none
	}
}

// turn sends round each circle that one comes to by going back by via: is there any? Via goes round only where that costs less than nothing, and two such circles have no node in common.
func (c *circles) turn() bool {
	turned := false
	from := slices.Repeat([]int{none}, len(c.via)) // the node from which each was come to first
	for first := range c.via {
		v := first
		for from[v] == none && c.via[v] != none {
			from[v] = first
			v = c.begin(c.via[v])
		}
		if from[v] == first {
			c.sendAlong(c.circleAt(v), math.MaxInt64)
			turned = true
		}
	}
	return turned
}

func (c *circles) circleAt(v int) []int {
	circle := []int{c.via[v]}
	for u := c.begin(c.via[v]); u != v; u = c.begin(c.via[u]) {
		circle = append(circle, c.via[u])
	}
	return circle
}
