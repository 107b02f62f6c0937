package links_test

import (
	"math"
	"testing"

	"compass/api"
	"compass/links"
	"compass/trial"
)

func forestOf(t *testing.T, n int) *links.Forest {
	t.Helper()
	f, code := links.New(n)
	if f == nil || code != api.OK {
		t.Fatalf("New(%d): %v, %v", n, f, code)
	}
	return f
}

// outside: numbers that none of n nodes have.
func outside(n int) []int { return []int{-1, n, n + 1, math.MinInt, math.MaxInt} }

// notLabels: values that no edge is linked with and none is raised by.
func notLabels() []int64 {
	return []int64{api.MaxLabel + 1, -api.MaxLabel - 1, math.MaxInt64, math.MinInt64, 1 << 32, -1 << 32}
}

// plain is a forest as the document's words say it: gone up edge by edge.
type plain struct {
	parent []int // -1 of a root
	value  []int64
}

func plainOf(n int) *plain {
	p := &plain{make([]int, n), make([]int64, n)}
	for v := range n {
		p.parent[v] = -1
	}
	return p
}

func (p *plain) isNode(v int) bool { return v >= 0 && v < len(p.parent) }

// noEdge: why nothing can be told of the edge above v.
func (p *plain) noEdge(v int) api.Errno {
	switch {
	case !p.isNode(v):
		return api.ErrNode
	case p.parent[v] < 0:
		return api.ErrRoot
	}
	return api.OK
}

func (p *plain) root(v int) (int, api.Errno) {
	if !p.isNode(v) {
		return 0, api.ErrNode
	}
	for p.parent[v] >= 0 {
		v = p.parent[v]
	}
	return v, api.OK
}

func (p *plain) link(v, w int, value int64) api.Errno {
	switch {
	case !p.isNode(v) || !p.isNode(w):
		return api.ErrNode
	case value < -api.MaxLabel || value > api.MaxLabel:
		return api.ErrLabel
	case p.parent[v] >= 0:
		return api.ErrRoot
	}
	if root, _ := p.root(w); root == v {
		return api.ErrCycle
	}
	p.parent[v], p.value[v] = w, value
	return api.OK
}

func (p *plain) cut(v int) (int64, api.Errno) {
	if code := p.noEdge(v); code != api.OK {
		return 0, code
	}
	p.parent[v] = -1
	return p.value[v], api.OK
}

func (p *plain) parentOf(v int) (int, api.Errno) {
	if code := p.noEdge(v); code != api.OK {
		return 0, code
	}
	return p.parent[v], api.OK
}

func (p *plain) valueOf(v int) (int64, api.Errno) {
	if code := p.noEdge(v); code != api.OK {
		return 0, code
	}
	return p.value[v], api.OK
}

func (p *plain) least(v int) (int, int64, api.Errno) {
	if code := p.noEdge(v); code != api.OK {
		return 0, 0, code
	}
	best := v
	for ; p.parent[v] >= 0; v = p.parent[v] {
		if p.value[v] <= p.value[best] { // of several the last that is come to
			best = v
		}
	}
	return best, p.value[best], api.OK
}

func (p *plain) add(v int, x int64) api.Errno {
	switch {
	case !p.isNode(v):
		return api.ErrNode
	case x < -api.MaxLabel || x > api.MaxLabel:
		return api.ErrLabel
	}
	for ; p.parent[v] >= 0; v = p.parent[v] {
		p.value[v] += x
	}
	return api.OK
}

// pair is a forest and what it must answer like.
type pair struct {
	t *testing.T
	f *links.Forest
	p *plain
}

func pairOf(t *testing.T, n int) pair { return pair{t, forestOf(t, n), plainOf(n)} }

func (x pair) link(v, w int, value int64) {
	if got, want := x.f.Link(v, w, value), x.p.link(v, w, value); got != want {
		x.t.Helper()
		x.t.Fatalf("Link(%d, %d, %d): %v; it should be %v", v, w, value, got, want)
	}
}

func (x pair) cut(v int) {
	got, code := x.f.Cut(v)
	if want, wantCode := x.p.cut(v); got != want || code != wantCode {
		x.t.Helper()
		x.t.Fatalf("Cut(%d): %d, %v; it should be %d, %v", v, got, code, want, wantCode)
	}
}

func (x pair) add(v int, by int64) {
	if got, want := x.f.Add(v, by), x.p.add(v, by); got != want {
		x.t.Helper()
		x.t.Fatalf("Add(%d, %d): %v; it should be %v", v, by, got, want)
	}
}

func (x pair) root(v int) {
	got, code := x.f.Root(v)
	if want, wantCode := x.p.root(v); got != want || code != wantCode {
		x.t.Helper()
		x.t.Fatalf("Root(%d): %d, %v; it should be %d, %v", v, got, code, want, wantCode)
	}
}

func (x pair) parent(v int) {
	got, code := x.f.Parent(v)
	if want, wantCode := x.p.parentOf(v); got != want || code != wantCode {
		x.t.Helper()
		x.t.Fatalf("Parent(%d): %d, %v; it should be %d, %v", v, got, code, want, wantCode)
	}
}

func (x pair) value(v int) {
	got, code := x.f.Value(v)
	if want, wantCode := x.p.valueOf(v); got != want || code != wantCode {
		x.t.Helper()
		x.t.Fatalf("Value(%d): %d, %v; it should be %d, %v", v, got, code, want, wantCode)
	}
}

func (x pair) least(v int) {
	got, value, code := x.f.Least(v)
	if want, wantValue, wantCode := x.p.least(v); got != want || value != wantValue || code != wantCode {
		x.t.Helper()
		x.t.Fatalf("Least(%d): %d, %d, %v; it should be %d, %d, %v", v, got, value, code, want, wantValue, wantCode)
	}
}

func (x pair) ask(v int) {
	x.root(v)
	x.parent(v)
	x.value(v)
	x.least(v)
}

// look: all that can be asked without a change is as it should be.
func (x pair) look() {
	for v := -1; v <= len(x.p.parent); v++ {
		x.ask(v)
	}
}

func TestP7_1New(t *testing.T) {
	for _, n := range []int{0, 1, 2, 77, api.MaxNodes} {
		f := forestOf(t, n)
		for v := range n {
			if root, code := f.Root(v); root != v || code != api.OK {
				t.Fatalf("Root(%d) of %d nodes: %d, %v", v, n, root, code)
			}
			if _, code := f.Parent(v); code != api.ErrRoot {
				t.Fatalf("Parent(%d) of %d nodes: %v", v, n, code)
			}
		}
		if _, code := f.Root(n); code != api.ErrNode {
			t.Errorf("Root(%d) of %d nodes: %v", n, n, code)
		}
	}
	for _, n := range []int{-1, api.MaxNodes + 1, math.MinInt, math.MaxInt} {
		if f, code := links.New(n); f != nil || code != api.ErrSize {
			t.Errorf("New(%d): %v, %v", n, f, code)
		}
	}
}

func TestP7TheChaptersExample(t *testing.T) {
	f := forestOf(t, 3)
	if a, b, c := f.Link(2, 1, 4), f.Link(1, 0, 3), f.Add(2, 5); a != api.OK || b != api.OK || c != api.OK {
		t.Errorf("Link, Link, Add: %v, %v, %v", a, b, c)
	}
	if v, value, code := f.Least(2); v != 1 || value != 8 || code != api.OK {
		t.Errorf("Least(2): %d, %d, %v", v, value, code)
	}
	if v, code := f.Root(2); v != 0 || code != api.OK {
		t.Errorf("Root(2): %d, %v", v, code)
	}
	if value, code := f.Cut(2); value != 9 || code != api.OK {
		t.Errorf("Cut(2): %d, %v", value, code)
	}
}

// fork: 0 is the root, 1 and 2 are below it, 3 and 4 below 1; 5 is alone.
func fork(t *testing.T) pair {
	x := pairOf(t, 6)
	x.link(3, 1, 30)
	x.link(4, 1, -40)
	x.link(1, 0, 10)
	x.link(2, 0, 20)
	return x
}

func TestP7_2LinkRefuses(t *testing.T) {
	x := fork(t)
	for _, c := range []struct {
		v, w  int
		value int64
		want  api.Errno
	}{
		{6, 0, 1, api.ErrNode}, {0, 6, 1, api.ErrNode}, {-1, -1, 1, api.ErrNode}, {5, -1, 1, api.ErrNode},
		{math.MaxInt, 0, 1, api.ErrNode}, {0, math.MinInt, 1, api.ErrNode},
		{6, 0, api.MaxLabel + 1, api.ErrNode}, // the node is named first
		{1, 6, math.MinInt64, api.ErrNode},
		{5, 0, api.MaxLabel + 1, api.ErrLabel}, {5, 0, -api.MaxLabel - 1, api.ErrLabel},
		{3, 5, math.MaxInt64, api.ErrLabel}, // then the label
		{0, 0, math.MinInt64, api.ErrLabel},
		{3, 5, 1, api.ErrRoot}, {1, 0, 1, api.ErrRoot},
		{3, 3, 1, api.ErrRoot}, // then the root
		{1, 3, 1, api.ErrRoot},
		{0, 3, 1, api.ErrCycle}, {0, 1, 1, api.ErrCycle}, {0, 2, 1, api.ErrCycle}, {0, 0, 1, api.ErrCycle}, {5, 5, 1, api.ErrCycle},
	} {
		if code := x.f.Link(c.v, c.w, c.value); code != c.want {
			t.Errorf("Link(%d, %d, %d): %v; it should be %v", c.v, c.w, c.value, code, c.want)
		}
		x.look()
	}
	for _, value := range notLabels() {
		if code := x.f.Link(5, 0, value); code != api.ErrLabel {
			t.Errorf("Link with %d: %v", value, code)
		}
	}
	x.look()
	empty := forestOf(t, 0)
	if code := empty.Link(0, 0, 0); code != api.ErrNode {
		t.Errorf("Link without any node: %v", code)
	}
}

func TestP7_2LinkTakesAllLabels(t *testing.T) {
	for _, value := range []int64{0, 1, -1, api.MaxLabel, -api.MaxLabel} {
		x := fork(t)
		if code := x.f.Link(0, 5, value); code != api.OK {
			t.Errorf("Link with %d: %v", value, code)
		}
		x.p.link(0, 5, value)
		x.look()
		if got, code := x.f.Value(0); got != value || code != api.OK {
			t.Errorf("Value of an edge with %d: %d, %v", value, got, code)
		}
	}
}

func TestP7_2LinkedAnew(t *testing.T) {
	x := fork(t)
	x.cut(1)
	x.link(0, 4, 5) // what was the root comes below what was below it
	x.look()
	if root, code := x.f.Root(2); root != 1 || code != api.OK {
		t.Errorf("Root(2): %d, %v", root, code)
	}
	if v, value, code := x.f.Least(2); v != 4 || value != -40 || code != api.OK {
		t.Errorf("Least(2): %d, %d, %v", v, value, code)
	}
}

func TestP7_3Cut(t *testing.T) {
	x := fork(t)
	x.add(3, 7)
	for _, c := range []struct {
		v    int
		want int64
		code api.Errno
	}{
		{0, 0, api.ErrRoot}, {5, 0, api.ErrRoot}, {6, 0, api.ErrNode}, {-1, 0, api.ErrNode}, {math.MaxInt, 0, api.ErrNode},
		{1, 17, api.OK}, {1, 0, api.ErrRoot}, {3, 37, api.OK}, {4, -40, api.OK}, {2, 20, api.OK}, {2, 0, api.ErrRoot},
	} {
		if value, code := x.f.Cut(c.v); value != c.want || code != c.code {
			t.Errorf("Cut(%d): %d, %v; it should be %d, %v", c.v, value, code, c.want, c.code)
		}
		x.p.cut(c.v)
		x.look()
	}
}

func TestP7_4Asked(t *testing.T) {
	f := fork(t).f
	for v, c := range []struct {
		root, parent int
		value        int64
		least        int
		leastValue   int64
		code         api.Errno
	}{
		{0, 0, 0, 0, 0, api.ErrRoot},
		{0, 0, 10, 1, 10, api.OK},
		{0, 0, 20, 2, 20, api.OK},
		{0, 1, 30, 1, 10, api.OK},
		{0, 1, -40, 4, -40, api.OK},
		{5, 0, 0, 0, 0, api.ErrRoot},
	} {
		if root, code := f.Root(v); root != c.root || code != api.OK {
			t.Errorf("Root(%d): %d, %v", v, root, code)
		}
		if parent, code := f.Parent(v); parent != c.parent || code != c.code {
			t.Errorf("Parent(%d): %d, %v", v, parent, code)
		}
		if value, code := f.Value(v); value != c.value || code != c.code {
			t.Errorf("Value(%d): %d, %v", v, value, code)
		}
		if least, value, code := f.Least(v); least != c.least || value != c.leastValue || code != c.code {
			t.Errorf("Least(%d): %d, %d, %v", v, least, value, code)
		}
	}
	for _, n := range []int{0, 6} {
		f, x := forestOf(t, n), fork(t)
		if n == 6 {
			f = x.f
		}
		for _, v := range outside(n) {
			root, rootCode := f.Root(v)
			parent, parentCode := f.Parent(v)
			value, valueCode := f.Value(v)
			least, leastValue, leastCode := f.Least(v)
			if root != 0 || parent != 0 || value != 0 || least != 0 || leastValue != 0 {
				t.Errorf("of node %d, which isn't there: %d, %d, %d, %d, %d", v, root, parent, value, least, leastValue)
			}
			for _, code := range []api.Errno{rootCode, parentCode, valueCode, leastCode} {
				if code != api.ErrNode {
					t.Errorf("of node %d, which isn't there: %v", v, code)
				}
			}
		}
		x.look()
	}
}

// chain: node v hangs below node v-1, with the value that is told of v.
func chain(t *testing.T, n int, value func(v int) int64) pair {
	x := pairOf(t, n)
	for v := 1; v < n; v++ {
		x.link(v, v-1, value(v))
	}
	return x
}

func TestP7_4OfSeveralLeastTheNearestToTheRoot(t *testing.T) {
	const n = 40
	for _, period := range []int{1, 2, 3, 7, 13} {
		x := chain(t, n, func(v int) int64 { return int64(-v % period) })
		x.look()
		for v := n - 1; v > 0; v-- {
			want := min(v, max(period-1, 1))
			if least, value, code := x.f.Least(v); least != want || value != -int64(want%period) || code != api.OK {
				t.Errorf("period %d: Least(%d): %d, %d, %v; it should be %d", period, v, least, value, code, want)
			}
		}
	}
	x := chain(t, n, func(v int) int64 { return 3 })
	x.add(n-1, -5)
	x.add(n/2, 1)
	x.add(n/2, -1)
	for v := 1; v < n; v++ {
		if least, value, _ := x.f.Least(v); least != 1 || value != -2 {
			t.Errorf("all alike: Least(%d): %d, %d", v, least, value)
		}
	}
	x.cut(1) // node 1 is a root now, and the edge above it no longer counts
	if least, value, _ := x.f.Least(n - 1); least != 2 || value != -2 {
		t.Errorf("Least behind a cut: %d, %d", least, value)
	}
	x.look()
}

// TestP7_4ARootHasNoEdge: what is told of a way hangs on nothing that the root itself once had.
func TestP7_4ARootHasNoEdge(t *testing.T) {
	for _, old := range []int64{-api.MaxLabel, -1, 0, api.MaxLabel} {
		for _, value := range []int64{-7, 0, 7} {
			x := pairOf(t, 4)
			x.link(1, 0, old)
			x.link(2, 1, value)
			x.link(3, 2, value+1)
			x.add(3, -2)
			x.cut(1)
			x.add(3, 1)
			if least, got, code := x.f.Least(3); least != 2 || got != value-1 || code != api.OK {
				t.Errorf("Least(3): %d, %d, %v; it should be 2, %d", least, got, code, value-1)
			}
			x.link(1, 0, 3)
			x.add(2, 1)
			if got, code := x.f.Value(1); got != 4 || code != api.OK {
				t.Errorf("Value(1) of an edge linked anew: %d, %v", got, code)
			}
			x.look()
		}
	}
}

func TestP7_5Add(t *testing.T) {
	x := fork(t)
	for _, c := range []struct {
		v    int
		by   int64
		want [6]int64 // the values above 1 to 4
	}{
		{3, 5, [6]int64{0, 15, 20, 35, -40}},
		{1, -6, [6]int64{0, 9, 20, 35, -40}},
		{0, 100, [6]int64{0, 9, 20, 35, -40}},
		{5, 100, [6]int64{0, 9, 20, 35, -40}},
		{4, 0, [6]int64{0, 9, 20, 35, -40}},
		{4, api.MaxLabel, [6]int64{0, 9 + api.MaxLabel, 20, 35, -40 + api.MaxLabel}},
		{3, -api.MaxLabel, [6]int64{0, 9, 20, 35 - api.MaxLabel, -40 + api.MaxLabel}},
	} {
		if code := x.f.Add(c.v, c.by); code != api.OK {
			t.Errorf("Add(%d, %d): %v", c.v, c.by, code)
		}
		x.p.add(c.v, c.by)
		for v := 1; v <= 4; v++ {
			if value, code := x.f.Value(v); value != c.want[v] || code != api.OK {
				t.Errorf("Value(%d) behind Add(%d, %d): %d, %v; it should be %d", v, c.v, c.by, value, code, c.want[v])
			}
		}
		x.look()
	}
}

func TestP7_5AddRefuses(t *testing.T) {
	x := fork(t)
	for _, by := range notLabels() {
		for v := range 6 { // of a root too
			if code := x.f.Add(v, by); code != api.ErrLabel {
				t.Errorf("Add(%d, %d): %v", v, by, code)
			}
		}
		for _, v := range outside(6) {
			if code := x.f.Add(v, by); code != api.ErrNode {
				t.Errorf("Add(%d, %d): %v", v, by, code)
			}
			if code := x.f.Add(v, 1); code != api.ErrNode {
				t.Errorf("Add(%d, 1): %v", v, code)
			}
		}
	}
	x.look()
}

func TestP7_5ValuesBeyondTheLimit(t *testing.T) {
	for _, sign := range []int64{1, -1} {
		x := chain(t, 9, func(v int) int64 { return sign * int64(api.MaxLabel-v) })
		for i := range 20000 {
			x.add(8-i%5, sign*api.MaxLabel)
		}
		x.look()
		if value, _ := x.f.Value(1); value != sign*(20001*api.MaxLabel-1) {
			t.Errorf("Value(1): %d", value)
		}
		for v := 8; v > 0; v-- {
			x.cut(v)
		}
		x.look()
	}
}

// TestP7AllShortRows: every row of so many calls, looked at behind each, or not before the last.
func TestP7AllShortRows(t *testing.T) {
	for _, c := range []struct{ nodes, calls int }{{1, 4}, {2, 4}, {3, 4}, {4, 3}} {
		choices := c.nodes * (2*c.nodes + 3)
		rows := 1
		for range c.calls {
			rows *= choices
		}
		for row := range 2 * rows {
			watched := row < rows
			x := pairOf(t, c.nodes)
			for range c.calls {
				choice := row % choices
				row /= choices
				v := choice % c.nodes
				switch what := choice / c.nodes; {
				case what < 2*c.nodes:
					x.link(v, what/2, int64(what%2))
				case what == 2*c.nodes:
					x.cut(v)
				default:
					x.add(v, int64(2*(what-2*c.nodes)-3))
				}
				if watched {
					x.look()
				}
			}
			x.look()
		}
	}
}

// someValue: small ones, that are often equal, any others, ones at the limits and ones beyond.
func someValue(row *trial.Scatter) int64 {
	switch row.Below(12) {
	case 0:
		return api.MaxLabel
	case 1:
		return -api.MaxLabel
	case 2:
		return int64(row.Between(-api.MaxLabel, api.MaxLabel))
	}
	if row.Below(40) == 0 {
		return notLabels()[row.Below(6)]
	}
	return int64(row.Between(-2, 2))
}

func someNode(row *trial.Scatter, n int) int {
	if row.Below(60) == 0 {
		return outside(n)[row.Below(5)]
	}
	return row.Below(n)
}

// someParent: for trees that are deep, flat, or anything between them.
func someParent(row *trial.Scatter, v, n, style int) int {
	switch style {
	case 0:
		return v - 1
	case 1:
		return row.Below(min(n, 3))
	}
	return someNode(row, n)
}

func (x pair) step(row *trial.Scatter, style, cuts int) {
	n := len(x.p.parent)
	v := someNode(row, n)
	switch what := row.Below(20); {
	case what < cuts:
		x.cut(v)
	case what < 10:
		if root, code := x.p.root(v); code == api.OK && row.Below(4) > 0 {
			v = root
		}
		x.link(v, someParent(row, v, n, style), someValue(row))
	case what < 15:
		x.add(v, someValue(row))
	case what < 16:
		x.root(v)
	case what < 17:
		x.parent(v)
	case what < 18:
		x.value(v)
	default:
		x.least(v)
	}
}

// TestP7ScatteredCalls: long rows of calls of all kinds; watched at each step, and without a look in between.
func TestP7ScatteredCalls(t *testing.T) {
	row := trial.NewScatter(31)
	for round := range 1200 {
		n := row.Between(1, 30)
		x := pairOf(t, n)
		for range 300 {
			x.step(row, round%3, round/3%5)
			if round%4 == 0 {
				x.look()
			}
		}
		x.look()
	}
}

// TestP7FullForests: as many nodes as there may be, in one chain and in trees of all shapes.
func TestP7FullForests(t *testing.T) {
	const n = api.MaxNodes
	row := trial.NewScatter(32)
	for style := range 3 {
		x := chain(t, n, func(v int) int64 { return int64(row.Between(-3, 3)) })
		x.look()
		for range 30000 {
			x.step(row, style, style+1)
		}
		x.look()
	}
}

// TestP7ChainsCutAndTurned: a chain of all nodes is cut somewhere, and its upper piece hung below the lower one, again and again.
func TestP7ChainsCutAndTurned(t *testing.T) {
	const n = api.MaxNodes
	row := trial.NewScatter(35)
	x := chain(t, n, func(v int) int64 { return int64(v % 17) })
	root := 0
	for range 2000 {
		next := (root + row.Between(1, n-1)) % n
		x.cut(next)
		x.link(root, (root+n-1)%n, int64(row.Between(-9, 9)))
		root = next
		x.add(row.Below(n), int64(row.Between(-5, 5)))
		x.least(row.Below(n))
		x.root(row.Below(n))
	}
	x.look()
}

// TestP2ForestsGoOnByThemselves: what is called on one is nothing to another, and to ask changes nothing.
func TestP2ForestsGoOnByThemselves(t *testing.T) {
	row := trial.NewScatter(33)
	x, y := pairOf(t, 9), pairOf(t, 9)
	for range 600 {
		x.step(row, 2, 3)
		y.step(row, 2, 4)
		x.look()
		y.look()
	}
}

// TestP2AskedOrNot: whatever is asked in between, the same calls answer the same.
func TestP2AskedOrNot(t *testing.T) {
	row := trial.NewScatter(34)
	for range 100 {
		quiet, asked := forestOf(t, 12), forestOf(t, 12)
		for range 200 {
			v, w, value, by := row.Below(12), row.Below(12), int64(row.Between(-3, 3)), int64(row.Between(-3, 3))
			if a, b := quiet.Link(v, w, value), asked.Link(v, w, value); a != b {
				t.Fatalf("Link(%d, %d, %d): %v and %v", v, w, value, a, b)
			}
			asked.Least(w)
			asked.Parent(v)
			quiet.Add(w, by)
			asked.Add(w, by)
			asked.Root(row.Below(12))
			asked.Link(v, v, math.MaxInt64)
			asked.Add(w, math.MinInt64)
			u := row.Below(12)
			a, aCode := quiet.Cut(u)
			if b, bCode := asked.Cut(u); a != b || aCode != bCode {
				t.Fatalf("Cut(%d): %d, %v and %d, %v", u, a, aCode, b, bCode)
			}
		}
	}
}
