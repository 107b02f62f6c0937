package maxflow

import (
	"testing"

	"compass/api"
)

func TestP13_1EachKindGoesItsOwnWay(t *testing.T) {
	n := newNet(api.Graph{Nodes: 2}, 0, 1)
	if _, ok := solverOf(Dinic, n).(*dinic); !ok {
		t.Error("Dinic goes another way")
	}
	if _, ok := solverOf(Trees, n).(*trees); !ok {
		t.Error("Trees goes another way")
	}
	if _, ok := solverOf(Push, n).(*push); !ok {
		t.Error("Push goes another way")
	}
}

// chain: 0 to 1 to 2 with 5 and 3, and 0 to 2 with 1.
func chain() *net {
	return newNet(api.Graph{Nodes: 3, Edges: []api.Edge{{From: 0, To: 1, Cap: 5}, {From: 1, To: 2, Cap: 3}, {From: 0, To: 2, Cap: 1}, {From: 1, To: 1, Cap: 9}}}, 0, 2)
}

// TestP13_1TheFewestEdgesFirst: at the first levels nothing but the edge straight to the sink is filled.
func TestP13_1TheFewestEdgesFirst(t *testing.T) {
	n := chain()
	if !n.settle() {
		t.Fatal("the sink isn't come to")
	}
	(&dinic{n}).pass(0, api.MaxLabel)
	if n.on(0) != 0 || n.on(1) != 0 || n.on(2) != 1 {
		t.Errorf("Dinic: %v", n.flow().On)
	}
	trees := newTrees(chain())
	trees.settle()
	trees.fillLevels()
	if trees.on(0) != 0 || trees.on(1) != 0 || trees.on(2) != 1 {
		t.Errorf("Trees: %v", trees.flow().On)
	}
}

// TestP13_1WhatIsTooMuchGoesBack: at the end no node but the sink and the source has more come to it than gone on.
func TestP13_1WhatIsTooMuchGoesBack(t *testing.T) {
	p := newPush(chain())
	p.fill()
	if p.over[1] != 0 || p.over[2] != 4 || p.on(0) != 3 {
		t.Errorf("Push: %v, too much %v", p.flow().On, p.over)
	}
}
