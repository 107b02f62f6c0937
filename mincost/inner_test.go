package mincost

import (
	"slices"
	"testing"

	"compass/api"
)

// caught: what run gave up with, or nil.
func caught(run func()) (given any) {
	defer func() { given = recover() }()
	run()
	return nil
}

func TestP14_1EachKindGoesItsOwnWay(t *testing.T) {
	n := newNet(api.Graph{Nodes: 2}, []int64{0, 0})
	if _, ok := solverOf(Ways, n).(*ways); !ok {
		t.Error("Ways goes another way")
	}
	if _, ok := solverOf(Circles, n).(*circles); !ok {
		t.Error("Circles goes another way")
	}
	if _, ok := solverOf(Scaling, n).(*scaling); !ok {
		t.Error("Scaling goes another way")
	}
}

func TestOnlyTheStuckAreTakenForNoWay(t *testing.T) {
	side := []bool{true, false}
	if got := sideOf(stuck{side}); !slices.Equal(got, side) {
		t.Errorf("the side %v became %v", side, got)
	}
	for _, fault := range []any{"a fault", api.ErrNoWay} {
		if given := caught(func() { sideOf(fault) }); given != fault {
			t.Errorf("a fault was hidden: %v", given)
		}
	}
}

func TestHalvesEndWith1(t *testing.T) {
	if got := slices.Collect(halves(20)); !slices.Equal(got, []int64{20, 10, 5, 2, 1}) {
		t.Errorf("halves of 20: %v", got)
	}
	for x := range halves(8) {
		if x < 4 {
			t.Fatal("halves go on though none is taken any more")
		}
		if x == 4 {
			break
		}
	}
}

// square: from 0 to 3 a dear way by 1, a cheap one by 2, and one that spares something from 1 to 2.
func square() *net {
	return newNet(api.Graph{Nodes: 4, Edges: []api.Edge{
		{From: 0, To: 1, Cap: 4, Cost: 70}, {From: 1, To: 3, Cap: 4, Cost: 90},
		{From: 0, To: 2, Cap: 4, Cost: 30}, {From: 2, To: 3, Cap: 4, Cost: 20}, {From: 1, To: 2, Cap: 4, Cost: -95},
	}}, []int64{5, 0, 0, -5})
}

// TestRefineKeepsToItsSlack: at each slack no arc that is open has a reduced cost of -slack or less, and all supplies are met.
func TestRefineKeepsToItsSlack(t *testing.T) {
	n := square()
	for slack := range halves(wide) {
		n.refine(slack)
		for v, arcs := range n.out {
			if n.over[v] != 0 {
				t.Fatalf("slack %d: %d left at %d", slack, n.over[v], v)
			}
			for _, a := range arcs {
				if n.open(a) && n.reduced(a) <= -slack {
					t.Fatalf("slack %d: arc %d has reduced cost %d", slack, a, n.reduced(a))
				}
			}
		}
	}
	if want := int64(3*(70-95+20) + (30 + 20) + (70 + 90)); n.price() != want {
		t.Errorf("the cost is %d; it should be %d", n.price(), want)
	}
}

// TestTurnTakesWholeCircles: what is sent round a circle changes no supply, and spares what the circle costs.
func TestTurnTakesWholeCircles(t *testing.T) {
	c := newCircles(newNet(api.Graph{Nodes: 4, Edges: []api.Edge{
		{From: 0, To: 1, Cap: 3, Cost: -1}, {From: 1, To: 2, Cap: 2, Cost: -1}, {From: 2, To: 0, Cap: 5, Cost: 1}, {From: 3, To: 0, Cap: 5, Cost: -9},
	}}, make([]int64, 4)))
	for c.relax(func(a int) { c.via[c.end[a]] = a }) {
		if c.turn() {
			break
		}
	}
	if c.price() != -2 || !slices.Equal(c.over, make([]int64, 4)) || c.on(0) != 2 || c.on(3) != 0 {
		t.Errorf("amounts %v cost %d, left at the nodes %v", c.plan(nil).On, c.price(), c.over)
	}
}

// TestPlanFindsPotentialsAnew: however great they had become, they are costs of ways at the end.
func TestPlanFindsPotentialsAnew(t *testing.T) {
	n := square()
	n.refine(exact)
	for v := range n.pot {
		n.pot[v] += 1 << 60
	}
	if p := n.plan([]int64{5, 0, 0, -5}); !slices.Equal(p.Pot, []int64{-215, -90, -185, 0}) {
		t.Errorf("the potentials are %v", p.Pot)
	}
}
