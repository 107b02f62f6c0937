package unions_test

import (
	"math"
	"slices"
	"testing"

	"compass/api"
	"compass/trial"
	"compass/unions"
)

func setsOf(t *testing.T, n int) *unions.Sets {
	t.Helper()
	s, code := unions.New(n)
	if s == nil || code != api.OK {
		t.Fatalf("New(%d): %v, %v", n, s, code)
	}
	return s
}

// outside: numbers that none of n nodes have.
func outside(n int) []int { return []int{-1, n, n + 1, math.MinInt, math.MaxInt} }

// plain is sets as the document's words say them: the least node of each node's set, and all that there was ahead of each join.
type plain struct {
	least []int
	past  [][]int
}

func plainOf(n int) *plain {
	p := &plain{}
	for v := range n {
		p.least = append(p.least, v)
	}
	return p
}

func (p *plain) join(u, v int) bool {
	a, b := p.least[u], p.least[v]
	if a == b {
		return false
	}
	p.past = append(p.past, slices.Clone(p.least))
	for w, least := range p.least {
		if least == a || least == b {
			p.least[w] = min(a, b)
		}
	}
	return true
}

func (p *plain) undo() api.Errno {
	if len(p.past) == 0 {
		return api.ErrNone
	}
	p.least = p.past[len(p.past)-1]
	p.past = p.past[:len(p.past)-1]
	return api.OK
}

func (p *plain) count() int {
	count := 0
	for v, least := range p.least {
		if v == least {
			count++
		}
	}
	return count
}

func (p *plain) members(v int) []int {
	var all []int
	for u, least := range p.least {
		if least == p.least[v] {
			all = append(all, u)
		}
	}
	return all
}

// pair is sets and what they must answer like.
type pair struct {
	t *testing.T
	s *unions.Sets
	p *plain
}

func pairOf(t *testing.T, n int) pair { return pair{t, setsOf(t, n), plainOf(n)} }

func (x pair) join(u, v int) {
	if got, code := x.s.Join(u, v); got != x.p.join(u, v) || code != api.OK {
		x.t.Helper()
		x.t.Fatalf("Join(%d, %d): %v, %v", u, v, got, code)
	}
}

func (x pair) undo() {
	if got, want := x.s.Undo(), x.p.undo(); got != want {
		x.t.Helper()
		x.t.Fatalf("Undo: %v; it should be %v", got, want)
	}
}

// look: all that can be asked without a change is as it should be.
func (x pair) look() {
	if x.s.Count() != x.p.count() || x.s.Joins() != len(x.p.past) {
		x.t.Helper()
		x.t.Fatalf("Count: %d, Joins: %d; they should be %d, %d", x.s.Count(), x.s.Joins(), x.p.count(), len(x.p.past))
	}
	for v, want := range x.p.least {
		if got, code := x.s.Find(v); got != want || code != api.OK {
			x.t.Helper()
			x.t.Fatalf("Find(%d): %d, %v; it should be %d", v, got, code, want)
		}
	}
}

// lookAtMembers asks for some of the nodes, as it takes longer.
func (x pair) lookAtMembers(nodes ...int) {
	for _, v := range nodes {
		if got, code := x.s.Members(v); !slices.Equal(got, x.p.members(v)) || code != api.OK {
			x.t.Helper()
			x.t.Fatalf("Members(%d): %v, %v; they should be %v", v, got, code, x.p.members(v))
		}
	}
}

func TestP6_1New(t *testing.T) {
	for _, n := range []int{0, 1, 2, 77, api.MaxNodes} {
		x := pairOf(t, n)
		x.look()
		for v := range n {
			x.lookAtMembers(v)
		}
		x.undo()
	}
	for _, n := range []int{-1, api.MaxNodes + 1, math.MinInt, math.MaxInt} {
		if s, code := unions.New(n); s != nil || code != api.ErrSize {
			t.Errorf("New(%d): %v, %v", n, s, code)
		}
	}
}

func TestP6TheChaptersExample(t *testing.T) {
	s := setsOf(t, 3)
	if fresh, code := s.Join(2, 1); !fresh || code != api.OK {
		t.Errorf("Join(2, 1): %v, %v", fresh, code)
	}
	if v, code := s.Find(2); v != 1 || code != api.OK || s.Count() != 2 {
		t.Errorf("Find(2): %d, %v; Count: %d", v, code, s.Count())
	}
	if code := s.Undo(); code != api.OK {
		t.Errorf("Undo: %v", code)
	}
	if v, code := s.Find(2); v != 2 || code != api.OK {
		t.Errorf("Find(2) behind Undo: %d, %v", v, code)
	}
	if code := s.Undo(); code != api.ErrNone {
		t.Errorf("Undo of nothing: %v", code)
	}
}

func TestP6_2AndP6_4WrongNodesAreRefused(t *testing.T) {
	for _, n := range []int{0, 1, 5} {
		x := pairOf(t, n)
		if n == 5 {
			x.join(4, 2)
			x.join(0, 3)
		}
		for _, v := range outside(n) {
			if u, code := x.s.Find(v); u != 0 || code != api.ErrNode {
				t.Errorf("P6.2: Find(%d) of %d nodes: %d, %v", v, n, u, code)
			}
			if list, code := x.s.Members(v); len(list) != 0 || code != api.ErrNode {
				t.Errorf("P6.4: Members(%d) of %d nodes: %v, %v", v, n, list, code)
			}
			for _, ends := range [][2]int{{v, v}, {v, 0}, {0, v}, {v, n - 1}, {n - 1, v}, {v, -1}, {n, v}} {
				if fresh, code := x.s.Join(ends[0], ends[1]); fresh || code != api.ErrNode {
					t.Errorf("P6.2: Join(%d, %d) of %d nodes: %v, %v", ends[0], ends[1], n, fresh, code)
				}
			}
			x.look()
		}
		x.undo()
		x.look()
	}
}

func TestP6_2JoinAndFind(t *testing.T) {
	s := setsOf(t, 6)
	for _, c := range []struct {
		u, v  int
		fresh bool
		least [6]int
	}{
		{5, 5, false, [6]int{0, 1, 2, 3, 4, 5}},
		{5, 3, true, [6]int{0, 1, 2, 3, 4, 3}},
		{3, 5, false, [6]int{0, 1, 2, 3, 4, 3}},
		{4, 5, true, [6]int{0, 1, 2, 3, 3, 3}},
		{4, 3, false, [6]int{0, 1, 2, 3, 3, 3}},
		{1, 4, true, [6]int{0, 1, 2, 1, 1, 1}}, // the smaller set has the least node
		{2, 0, true, [6]int{0, 1, 0, 1, 1, 1}},
		{2, 3, true, [6]int{0, 0, 0, 0, 0, 0}},
		{0, 5, false, [6]int{0, 0, 0, 0, 0, 0}},
	} {
		if fresh, code := s.Join(c.u, c.v); fresh != c.fresh || code != api.OK {
			t.Errorf("Join(%d, %d): %v, %v", c.u, c.v, fresh, code)
		}
		for v, want := range c.least {
			if got, code := s.Find(v); got != want || code != api.OK {
				t.Errorf("Find(%d) behind Join(%d, %d): %d, %v; it should be %d", v, c.u, c.v, got, code, want)
			}
		}
	}
}

func TestP6_3OnlyJoinsOfTwoAreTakenBack(t *testing.T) {
	s := setsOf(t, 4)
	s.Join(0, 0)
	if code := s.Undo(); code != api.ErrNone || s.Joins() != 0 {
		t.Errorf("Undo of a join that made nothing one: %v, %d joins", code, s.Joins())
	}
	s.Join(2, 3)
	s.Join(3, 2)
	s.Join(1, 3)
	s.Join(1, 2)
	if s.Joins() != 2 {
		t.Errorf("Joins: %d", s.Joins())
	}
	if code := s.Undo(); code != api.OK || s.Joins() != 1 {
		t.Errorf("Undo: %v, %d joins", code, s.Joins())
	}
	one, _ := s.Find(1)
	three, _ := s.Find(3)
	if one != 1 || three != 2 {
		t.Errorf("Find(1) and Find(3) behind Undo: %d, %d", one, three)
	}
	s.Join(0, 3)
	s.Undo()
	s.Undo()
	if code := s.Undo(); code != api.ErrNone || s.Joins() != 0 || s.Count() != 4 {
		t.Errorf("Undo of nothing: %v, %d joins, %d sets", code, s.Joins(), s.Count())
	}
}

func TestP6_4CountAndMembers(t *testing.T) {
	s := setsOf(t, 7)
	s.Join(6, 2)
	s.Join(4, 6)
	s.Join(5, 0)
	if s.Count() != 4 {
		t.Errorf("Count: %d", s.Count())
	}
	for v, want := range [][]int{{0, 5}, {1}, {2, 4, 6}, {3}, {2, 4, 6}, {0, 5}, {2, 4, 6}} {
		if got, code := s.Members(v); !slices.Equal(got, want) || code != api.OK {
			t.Errorf("Members(%d): %v, %v; they should be %v", v, got, code, want)
		}
	}
}

// TestP6AllShortRows: every row of so many calls, looked at behind each.
func TestP6AllShortRows(t *testing.T) {
	for _, c := range []struct{ nodes, calls int }{{1, 4}, {2, 6}, {3, 5}, {4, 4}} {
		choices := c.nodes*c.nodes + 1
		rows := 1
		for range c.calls {
			rows *= choices
		}
		for row := range rows {
			x := pairOf(t, c.nodes)
			for range c.calls {
				choice := row % choices
				row /= choices
				if choice == choices-1 {
					x.undo()
				} else {
					x.join(choice/c.nodes, choice%c.nodes)
				}
				x.look()
			}
			x.lookAtMembers(0, c.nodes-1)
			for x.s.Joins() > 0 {
				x.undo()
				x.look()
			}
			x.undo()
		}
	}
}

func TestP6ScatteredCalls(t *testing.T) {
	row := trial.NewScatter(21)
	for round := range 300 {
		n := row.Between(1, 40)
		x := pairOf(t, n)
		undos := round % 6
		for range 200 {
			if row.Below(10) < undos {
				x.undo()
			} else {
				x.join(row.Below(n), row.Below(n))
			}
			x.look()
			x.lookAtMembers(row.Below(n))
		}
	}
}

// TestP6AllNodesJoined: as many nodes as there may be, joined in several orders, and all joins taken back.
func TestP6AllNodesJoined(t *testing.T) {
	const n = api.MaxNodes
	row := trial.NewScatter(22)
	for _, ends := range []func(i int) (u, v int){
		func(i int) (u, v int) { return i, i + 1 },
		func(i int) (u, v int) { return n - 1 - i, n - 2 - i },
		func(i int) (u, v int) { return n - 1, i },
		func(i int) (u, v int) { return i &^ (i + 1), i + 1 },
		func(i int) (u, v int) { return row.Below(n), i },
	} {
		x := pairOf(t, n)
		for i := range n - 1 {
			x.join(ends(i))
			if i%50 == 0 {
				x.look()
			}
		}
		x.look()
		x.lookAtMembers(0, n/2, n-1)
		for x.s.Joins() > 0 {
			x.undo()
			if x.s.Joins()%50 == 0 {
				x.look()
			}
		}
		x.undo()
		x.lookAtMembers(0, n/2, n-1)
	}
}

// TestP2AnswersAreNewMemory: whoever writes over Members, and over their spare room, changes nothing.
func TestP2AnswersAreNewMemory(t *testing.T) {
	x := pairOf(t, 5)
	x.join(4, 1)
	x.join(1, 3)
	first, _ := x.s.Members(3)
	second, _ := x.s.Members(3)
	trial.Spoil(first, -7)
	if !slices.Equal(second, []int{1, 3, 4}) {
		t.Errorf("two answers share memory: %v", second)
	}
	x.look()
	x.lookAtMembers(0, 1, 2, 3, 4)
	x.join(0, 2)
	x.join(2, 3)
	x.undo()
	if !slices.Equal(second, []int{1, 3, 4}) {
		t.Errorf("a join changes an earlier answer: %v", second)
	}
}

// TestP2SetsGoOnByThemselves: what is called on one is nothing to another, and a look changes nothing.
func TestP2SetsGoOnByThemselves(t *testing.T) {
	row := trial.NewScatter(23)
	x, y := pairOf(t, 9), pairOf(t, 9)
	for range 500 {
		for _, z := range []pair{x, y} {
			if row.Below(3) == 0 {
				z.undo()
			} else {
				z.join(row.Below(9), row.Below(9))
			}
		}
		x.look()
		y.look()
	}
}
