package bimatch

import (
	"slices"
	"testing"

	"compass/api"
	"compass/trial"
)

func TestP15_2EachKindGoesItsOwnWay(t *testing.T) {
	p := newPairs(api.Graph{Nodes: 2}, 1)
	if _, ok := solverOf(Simple, p).(*simple); !ok {
		t.Error("Simple goes another way")
	}
	if _, ok := solverOf(Phases, p).(*phases); !ok {
		t.Error("Phases goes another way")
	}
}

// ladder: three free nodes of the left side. From 0 a free node of the right side is come to at once, from 1 by changing one pair, from 2 by changing two.
func ladder() *phases {
	p := newPairs(api.Graph{Nodes: 12, Edges: []api.Edge{
		{From: 0, To: 6},
		{From: 1, To: 7}, {From: 3, To: 7}, {From: 3, To: 8},
		{From: 2, To: 9}, {From: 4, To: 9}, {From: 4, To: 10}, {From: 5, To: 10}, {From: 5, To: 11},
	}}, 6)
	for _, i := range []int{2, 5, 7} {
		p.take(i)
	}
	return &phases{pairs: p}
}

// TestP15_2ShortestWaysFirst: each phase changes the pairs along ways of one length alone.
func TestP15_2ShortestWaysFirst(t *testing.T) {
	p := ladder()
	for phase, want := range [][]int{{0, 2, 5, 7}, {0, 1, 3, 5, 7}, {0, 1, 3, 4, 6, 8}} {
		if !p.settle() || p.last != phase {
			t.Fatalf("phase %d: ways from level %d", phase, p.last)
		}
		p.change()
		if got := p.match(); !slices.Equal(got, want) {
			t.Fatalf("phase %d: %v; it should be %v", phase, got, want)
		}
	}
	if p.settle() {
		t.Error("more could be matched")
	}
}

// TestP15_2FewPhases: each phase takes all shortest ways, so that the next ones are longer.
func TestP15_2FewPhases(t *testing.T) {
	row := trial.NewScatter(155)
	for range 200 {
		nodes := row.Between(20, 200)
		p := &phases{pairs: newPairs(row.Sided(nodes, nodes/2, 2*nodes, 0, 0), nodes/2)}
		for last := none; p.settle(); last = p.last {
			if p.last <= last {
				t.Fatalf("behind ways from level %d there are some from level %d", last, p.last)
			}
			p.change()
		}
	}
}

// TestP15_2SimpleGoesNodeByNode: when a node was taken, as many are matched as can be of it and those ahead of it.
func TestP15_2SimpleGoesNodeByNode(t *testing.T) {
	row := trial.NewScatter(156)
	for range 200 {
		g := row.Sided(20, 10, row.Between(5, 30), 0, 0)
		s := &simple{newPairs(g, 10)}
		for v := range 10 {
			s.place(v, make([]bool, 20))
			ahead := newPairs(g, 10)
			for later := v + 1; later < 10; later++ {
				ahead.at[later] = nil
			}
			(&phases{pairs: ahead}).fill()
			if got, want := len(s.match()), len(ahead.match()); got != want {
				t.Fatalf("%v: %d of the first %d are matched; it should be %d", g, got, v+1, want)
			}
		}
	}
}
