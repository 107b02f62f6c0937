package mincost

import "compass/api"

// ways fills what costs less than nothing and sends what is too much along cheapest ways, at costs that are exact from the beginning. Great amounts go first: one after the other, small ones may find far more ways that each cost something else.
type ways struct{ *net }

func (w *ways) meet() {
	for w.grain = range halves(api.MaxLabel) {
		w.refine(exact)
	}
}
