package vouch_test

import (
	"math"
	"slices"
	"testing"

	"compass/api"
	"compass/trial"
	"compass/vouch"
)

// answer: what a call answered, of whichever.
type answer struct {
	number int64
	code   api.Errno
}

// all: each call's answer, with proofs made of the same lists; Gadget's number is that of its nodes and edges.
func all(g api.Graph, m, set, b []int, pot []int64, w vouch.Metric) []answer {
	covered, coveredCode := vouch.Covered(g, m, set)
	heaviest, heaviestCode := vouch.Heaviest(g, m, pot)
	largest, largestCode := vouch.Largest(g, m, set)
	cheapest, cheapestCode := vouch.Cheapest(g, m, w.Duals)
	gadget, gadgetCode := vouch.Gadget(g, b)
	many, manyCode := vouch.Many(g, b, m, set)
	doubled, doubledCode := vouch.Doubled(g, m, w)
	return []answer{
		{0, vouch.Matching(g, m)}, {int64(covered), coveredCode}, {heaviest, heaviestCode}, {int64(largest), largestCode},
		{0, vouch.NoPerfect(g, set)}, {cheapest, cheapestCode}, {int64(gadget.Nodes + len(gadget.Edges)), gadgetCode},
		{int64(many), manyCode}, {doubled, doubledCode},
	}
}

// TestP12WrongGraphsAreRefused: ahead of any other error.
func TestP12WrongGraphsAreRefused(t *testing.T) {
	for _, c := range trial.WrongGraphs() {
		for _, list := range [][]int{nil, {0}, {0, 1}, {-1, math.MaxInt}} {
			for _, pot := range [][]int64{nil, {0, 0}, far()} {
				w := vouch.Metric{Dist: [][]int64{pot, nil}, Duals: vouch.Duals{Y: pot, Sets: []vouch.Blossom{{Nodes: list}}}}
				for _, got := range all(c.Graph, list, list, list, pot, w) {
					if got != (answer{0, c.Fault.Code}) {
						t.Errorf("a graph with fault %v: %v", c.Fault, got)
					}
				}
			}
		}
	}
}

// raw: a scattered number, often a wrong one.
func raw(row *trial.Scatter) int64 {
	if row.Below(8) == 0 {
		return far()[row.Below(4)]
	}
	return int64(row.Between(-1, 5))
}

func rawNumbers(row *trial.Scatter) []int {
	var list []int
	for range row.Below(5) {
		list = append(list, int(raw(row)))
	}
	if row.Below(2) == 0 {
		slices.Sort(list)
	}
	return list
}

func rawWeights(row *trial.Scatter) []int64 {
	var list []int64
	for range row.Below(5) {
		list = append(list, raw(row))
	}
	return list
}

// TestP1: whatever is handed in, every call ends, and beside an error there is nothing.
func TestP1(t *testing.T) {
	row := trial.NewScatter(94)
	for range 20000 {
		g := api.Graph{Nodes: row.Between(-1, 5)}
		for range row.Below(5) {
			e := api.Edge{From: row.Below(4), To: row.Below(4)}
			if row.Below(8) == 0 {
				e = api.Edge{From: int(raw(row)), To: int(raw(row)), Cap: raw(row), Cost: raw(row)}
			}
			g.Edges = append(g.Edges, e)
		}
		w := vouch.Metric{Duals: vouch.Duals{Y: rawWeights(row)}}
		for range row.Below(4) {
			w.Dist = append(w.Dist, rawWeights(row))
			w.Duals.Sets = append(w.Duals.Sets, vouch.Blossom{Nodes: rawNumbers(row), Z: raw(row)})
		}
		for k, got := range all(g, rawNumbers(row), rawNumbers(row), rawNumbers(row), rawWeights(row), w) {
			if got.code != api.OK && got.number != 0 {
				t.Fatalf("%v: call %d, beside an error: %v", g, k, got)
			}
		}
	}
}

// TestP2: nothing that is handed in is changed, and the same call answers the same.
func TestP2(t *testing.T) {
	row := trial.NewScatter(95)
	taken := make([]int, 9)
	for range 200 {
		g, m, w := eachJoined(row, 6, 4)
		edges, sameEdges := trial.Watched(g.Edges, api.Edge{From: -7})
		g.Edges = edges
		list, sameList := trial.Watched(m, -7)
		set, sameSet := trial.Watched([]int{1, 3, 5}[:row.Below(4)], -7)
		b, sameB := trial.Watched([]int{1, 1, 1, 1, 1, 1}, -7)
		pot, samePot := trial.Watched(w.Duals.Y, -7)
		var sameRows []func() bool
		for k := range w.Dist {
			watched, same := trial.Watched(w.Dist[k], -7)
			w.Dist[k] = watched
			sameRows = append(sameRows, same)
		}
		for k := range w.Duals.Sets {
			watched, same := trial.Watched(w.Duals.Sets[k].Nodes, -7)
			w.Duals.Sets[k].Nodes = watched
			sameRows = append(sameRows, same)
		}
		w.Duals.Y = pot
		first := all(g, list, set, b, pot, w)
		second := all(g, list, set, b, pot, w)
		same := sameEdges() && sameList() && sameSet() && sameB() && samePot()
		for _, sameRow := range sameRows {
			same = same && sameRow()
		}
		if !same || !slices.Equal(first, second) {
			t.Fatal("a call changes what it is handed, or answers otherwise")
		}
		for k, got := range first {
			if got.code == api.OK {
				taken[k]++
			}
		}
	}
	for _, k := range []int{0, 3, 5, 6, 7, 8} { // of six nodes, each two joined, the others have nothing to take
		if taken[k] == 0 {
			t.Errorf("call %d was never taken", k)
		}
	}
}

// TestP2GadgetIsNew: it shares no memory with anything.
func TestP2GadgetIsNew(t *testing.T) {
	row := trial.NewScatter(96)
	for range 100 {
		g := row.Graph(6, 8)
		edges, same := trial.Watched(g.Edges, api.Edge{From: -7})
		g.Edges = edges
		b := []int{1, 2, 3, 0, 1, 2}
		first, _ := vouch.Gadget(g, b)
		second, _ := vouch.Gadget(g, b)
		kept := slices.Clone(second.Edges)
		trial.Spoil(first.Edges, api.Edge{From: -7})
		third, _ := vouch.Gadget(g, b)
		if !same() || !slices.Equal(second.Edges, kept) || !sameGraph(second, third) {
			t.Fatal("a gadget shares memory")
		}
	}
}
