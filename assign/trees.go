package assign

import (
	"compass/api"
	"compass/heaps"
)

// trees leaves the potentials alone till it knows how far it must go: it takes the columns by their distances from the row that is taken in, the slacks being the lengths, as a cheapest way is found.
type trees struct {
	*table
	queue *heaps.Queue
	dist  []int64 // of each column; far, if it wasn't come to
	come  []int   // the columns that were given out by the queue and whose rows were looked from
}

func newTrees(t *table) *trees { return &trees{table: t, dist: make([]int64, len(t.pot))} }

// takeIn ends at the column that nothing is matched with, or at the row that can do without one, whichever is nearer. A row can do without one as far behind its own distance as its potential is great.
func (t *trees) takeIn(first int) {
	t.begin(first)
	t.forget()
	row, at := first, int64(0)
	poor, least := first, t.pot[first]
search:
	for {
		t.lookFrom(row, at)
		column, dist, code := t.queue.Pop()
		switch {
		case code != api.OK || dist >= least:
			t.settle(first, least)
			t.turn(t.give(poor))
			break search
		case t.by[column] == none:
			t.settle(first, dist)
			t.turn(column)
			break search
		default:
			t.come = append(t.come, column)
			row, at = t.holder(column), dist
		}
		if at+t.pot[row] < least {
			poor, least = row, at+t.pot[row]
		}
	}
}

func (t *trees) forget() {
	t.queue, _ = heaps.New(heaps.Radix, len(t.pot)) // a right graph has no more nodes than a queue may have handles
	t.come = t.come[:0]
	for column := range t.dist {
		t.dist[column] = far
	}
}

// lookFrom: this row is come to, at that distance. No slack is below 0, so no column becomes nearer that was given out, and no key is below the last one.
func (t *trees) lookFrom(row int, at int64) {
	for _, i := range t.entries[row] {
		column, dist := t.column[i], at+t.slack(i)
		if dist >= t.dist[column] {
			continue
		}
		t.dist[column], t.via[column] = dist, i
		if t.queue.Push(column, dist) == api.ErrHeld {
			t.queue.Lower(column, dist)
		}
	}
}

// settle changes the potentials by how much nearer each row and column is than where the search ended.
func (t *trees) settle(first int, end int64) {
	t.pot[first] -= end
	for _, column := range t.come {
		t.pot[t.holder(column)] -= end - t.dist[column]
		t.pot[column] += end - t.dist[column]
	}
}
