package blossom

import (
	"slices"
	"testing"

	"compass/api"
	"compass/trial"
)

// wantPairs: whom a node is matched with is matched with it, along an edge.
func wantPairs(t *testing.T, f *forest) {
	t.Helper()
	for v, mate := range f.mate {
		if mate != none && (f.mate[mate] != v || !slices.Contains(f.beside[v], mate)) {
			t.Fatalf("%v: %d isn't matched with %d", f.mate, v, mate)
		}
	}
}

// wantStanding: the trees that no more could be matched from, each label by the words.
func wantStanding(t *testing.T, f *forest, searched int) {
	t.Helper()
	for v, label := range f.label {
		switch label {
		case free:
			if f.mate[v] == none && v <= searched {
				t.Fatalf("%v: %d isn't matched, but in no tree", f.mate, v)
			}
			if f.base[v] != v {
				t.Fatalf("%d is in no tree, but goes by %d", v, f.base[v])
			}
		case inner:
			if f.mate[v] == none || f.label[f.mate[v]] != outer || !slices.Contains(f.beside[v], f.link[v]) || f.label[f.link[v]] != outer {
				t.Fatalf("%v, %v: %d lies between no outer nodes", f.mate, f.label, v)
			}
		case outer:
			for _, u := range f.beside[v] {
				if f.label[u] == free || f.label[u] == outer && f.find(u) != f.find(v) {
					t.Fatalf("%v: the edge from %d to %d leads on", f.label, v, u)
				}
			}
		}
	}
}

// TestP17_1EachSearchMatchesOneMoreOrLeavesATree: from the first node to the last.
func TestP17_1EachSearchMatchesOneMoreOrLeavesATree(t *testing.T) {
	row := trial.NewScatter(176)
	for range 1500 {
		nodes := row.Between(1, 16)
		f := newForest(row.Small(nodes, row.Below(2*nodes), 0, 0, 0))
		for v := range nodes {
			if f.mate[v] == none {
				f.grow(v)
			}
			wantPairs(t, f)
			wantStanding(t, f, v)
		}
	}
}

// TestMeetGoesNoFartherThanItMust: at the end of a long tree only the bases near the circle are come to.
func TestMeetGoesNoFartherThanItMust(t *testing.T) {
	const long = 101
	f := newForest(api.Graph{Nodes: long})
	for v := 2; v < long; v += 2 {
		f.mate[v-1], f.mate[v], f.link[v-1] = v, v-1, v-2
	}
	f.link[long-2] = long - 5 // two ways part there
	if got := f.meet(long-1, long-3); got != long-5 {
		t.Errorf("they meet at %d", got)
	}
	come := 0
	for _, meeting := range f.come {
		come += meeting
	}
	if come > 4 {
		t.Errorf("%d bases were come to", come)
	}
}
