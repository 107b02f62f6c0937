package links

import (
	"slices"
	"testing"

	"compass/api"
	"compass/trial"
)

// ordered: the nodes of a splay tree from left to right; it fails, if they don't say rightly what is over them, and what is least.
func (f *Forest) ordered(t *testing.T, top int) []int {
	t.Helper()
	if top == none {
		return nil
	}
	n := f.nodes[top]
	least := n.value
	for _, c := range n.child {
		if c == none {
			continue
		}
		if f.nodes[c].up != top {
			t.Fatalf("%d is over %d, which says %d", top, c, f.nodes[c].up)
		}
		least = min(least, f.nodes[c].least+n.pending)
	}
	if n.least != least {
		t.Fatalf("the least from %d on is %d; it should be %d", top, n.least, least)
	}
	return slices.Concat(f.ordered(t, n.child[above]), []int{top}, f.ordered(t, n.child[below]))
}

// sound: each splay tree is a stretch of a way, where each node's parent is the one to its left; that of the leftmost is what the top says, and a root has the value 0.
func (f *Forest) sound(t *testing.T, parent []int) {
	t.Helper()
	count := 0
	for v := range f.nodes {
		if f.side(v) != none {
			continue
		}
		stretch := f.ordered(t, v)
		count += len(stretch)
		for i, u := range stretch {
			want := f.nodes[v].up
			if i > 0 {
				want = stretch[i-1]
			}
			if parent[u] != want {
				t.Fatalf("the parent of %d is %d; it should be %d", u, want, parent[u])
			}
		}
		if value := f.valueIn(stretch[0]); f.nodes[v].up == none && value != 0 {
			t.Fatalf("root %d has the value %d", stretch[0], value)
		}
	}
	if count != len(f.nodes) {
		t.Fatalf("%d nodes are in splay trees", count)
	}
}

// valueIn: the value of v, with what is pending over it.
func (f *Forest) valueIn(v int) int64 {
	value := f.nodes[v].value
	for ; f.side(v) != none; v = f.nodes[v].up {
		value += f.nodes[f.nodes[v].up].pending
	}
	return value
}

func TestSplayTreesAreSound(t *testing.T) {
	row := trial.NewScatter(36)
	for range 300 {
		n := row.Between(1, 16)
		f, _ := New(n)
		parent := slices.Repeat([]int{none}, n)
		for range 120 {
			v, w, x := row.Below(n), row.Below(n), int64(row.Between(-9, 9))
			switch row.Below(6) {
			case 0, 1:
				if f.Link(v, w, x) == api.OK {
					parent[v] = w
				}
			case 2:
				if _, code := f.Cut(v); code == api.OK {
					parent[v] = none
				}
			case 3:
				f.Add(v, x)
			case 4:
				f.Least(v)
			default:
				f.Parent(v)
			}
			f.sound(t, parent)
		}
	}
}

// depth: how many steps it is from v to a node with nothing over it.
func (f *Forest) depth(v int) int {
	steps := 0
	for f.nodes[v].up != none {
		v = f.nodes[v].up
		steps++
	}
	return steps
}

// TestWaysBecomeShort: in a chain of all nodes, whichever nodes are asked for and in whichever order, it is a few steps on the average, not a good part of the chain.
func TestWaysBecomeShort(t *testing.T) {
	const n, rounds, few = api.MaxNodes, 5, 30
	asks := map[string]func(f *Forest, v int){
		"Root":   func(f *Forest, v int) { f.Root(v) },
		"Parent": func(f *Forest, v int) { f.Parent(v) },
		"Value":  func(f *Forest, v int) { f.Value(v) },
		"Least":  func(f *Forest, v int) { f.Least(v) },
		"Add":    func(f *Forest, v int) { f.Add(v, 1) },
	}
	orders := map[string]func(i int, row *trial.Scatter) int{
		"down":      func(i int, row *trial.Scatter) int { return i % n },
		"up":        func(i int, row *trial.Scatter) int { return n - 1 - i%n },
		"scattered": func(i int, row *trial.Scatter) int { return row.Below(n) },
		"lowest":    func(i int, row *trial.Scatter) int { return n - 1 },
	}
	for ask, do := range asks {
		for order, node := range orders {
			f, _ := New(n)
			for v := 1; v < n; v++ {
				f.Link(v, v-1, int64(v%5))
			}
			steps, row := 0, trial.NewScatter(37)
			for i := range rounds * n {
				v := node(i, row)
				steps += f.depth(v)
				do(f, v)
			}
			if steps > few*rounds*n {
				t.Errorf("%s, %s: %d steps on the average", ask, order, steps/(rounds*n))
			}
		}
	}
}
