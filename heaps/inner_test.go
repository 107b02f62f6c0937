package heaps

import (
	"math"
	"testing"

	"compass/api"
	"compass/trial"
)

// fibonacciNumber: 1, 1, 2, 3, 5 and so on, from the first on.
func fibonacciNumber(i int) int {
	a, b := 0, 1
	for range i {
		a, b = b, a+b
	}
	return a
}

func (f *fibonacci) childrenOf(h int) []int {
	var all []int
	for c := f.kin[h].child; c != none; c = f.kin[c].next {
		all = append(all, c)
	}
	return all
}

// sizeOf: how many handles there are below h and with it; each is held against what a tree must be.
func (f *fibonacci) sizeOf(t *testing.T, h int) int {
	size := 1
	children := f.childrenOf(h)
	for _, c := range children {
		if f.before(c, h) || f.kin[c].parent != h {
			t.Fatalf("%d stands below %d", c, h)
		}
		size += f.sizeOf(t, c)
	}
	if d := len(children); d != f.degree[h] || d >= degrees || size < fibonacciNumber(d+2) {
		t.Fatalf("%d has %d children (%d are counted) and %d handles in all", h, d, f.degree[h], size)
	}
	return size
}

// whole: all handles that are held stand in trees, whose greatest degree is answered.
func (f *fibonacci) whole(t *testing.T) int {
	size, most := 0, 0
	for _, h := range f.roots {
		if f.kin[h].parent != none || f.lost[h] {
			t.Fatalf("%d is no fit root", h)
		}
		size += f.sizeOf(t, h)
		most = max(most, f.degree[h])
	}
	if size != f.Len() {
		t.Fatalf("%d handles stand in the trees, %d are held", size, f.Len())
	}
	return most
}

func newFibonacciQueue(t *testing.T, n int) (*Queue, *fibonacci) {
	q, code := New(Fibonacci, n)
	if code != api.OK {
		t.Fatal(code)
	}
	return q, q.engine.(*fibonacci)
}

func TestFibonacciTreesStayWide(t *testing.T) {
	row := trial.NewScatter(11)
	q, f := newFibonacciQueue(t, 200)
	for range 20000 {
		h := row.Below(200)
		switch choice := row.Below(12); {
		case choice < 2:
			q.Pop()
		case choice < 5:
			q.Push(h, int64(row.Below(1000)))
		default:
			if key, code := q.Key(h); code == api.OK {
				q.Lower(h, key-int64(row.Below(300)))
			}
		}
		f.whole(t)
	}
}

// sparse takes from each handle that may still lose a child without leaving its parent the greatest of its children.
type sparse struct {
	q    *Queue
	f    *fibonacci
	next int64 // keys that rise
	low  int64 // keys below all of those, which fall
	free []int
}

func (s *sparse) push() {
	h := s.free[len(s.free)-1]
	s.free = s.free[:len(s.free)-1]
	s.q.Push(h, s.next)
	s.next++
}

func (s *sparse) pop() {
	h, _, code := s.q.Pop()
	if code == api.OK {
		s.free = append(s.free, h)
	}
}

// settle makes the trees be joined, by a handle that comes and goes.
func (s *sparse) settle() {
	h := s.free[len(s.free)-1]
	s.q.Push(h, math.MinInt64)
	s.q.Pop()
}

func (s *sparse) below(h int) []int {
	all := []int{h}
	for _, c := range s.f.childrenOf(h) {
		all = append(all, s.below(c)...)
	}
	return all
}

// drop makes h and all below it leave the queue.
func (s *sparse) drop(h int) {
	all := s.below(h)
	for _, v := range all {
		s.low--
		s.q.Lower(v, s.low)
	}
	for range all {
		s.pop()
	}
}

// thin: has a handle below h lost a child? One at a time, as what leaves lets other trees be joined.
func (s *sparse) thin(h int) bool {
	children := s.f.childrenOf(h)
	if s.f.kin[h].parent != none && !s.f.lost[h] && len(children) > 0 {
		greatest := children[0]
		for _, c := range children {
			if s.f.degree[c] > s.f.degree[greatest] {
				greatest = c
			}
		}
		s.drop(greatest)
		return true
	}
	for _, c := range children {
		if s.thin(c) {
			return true
		}
	}
	return false
}

func (s *sparse) thinAll() {
again:
	for _, h := range s.f.roots {
		if s.thin(h) {
			goto again
		}
	}
}

// TestFibonacciTreesAsSparseAsTheyCome: the array of what is found is great enough for trees from which all has been taken that may be.
func TestFibonacciTreesAsSparseAsTheyCome(t *testing.T) {
	q, f := newFibonacciQueue(t, api.MaxNodes)
	s := &sparse{q: q, f: f}
	for h := range api.MaxNodes {
		s.free = append(s.free, h)
	}
	most := 0
	for len(s.free) > 1 && most < 13 {
		s.push()
		s.settle()
		most = max(most, f.whole(t))
		s.thinAll()
	}
	if most != 13 {
		t.Errorf("the greatest degree that came is %d", most)
	}
	last := int64(math.MinInt64)
	for q.Len() > 0 {
		_, key, _ := q.Pop()
		if key < last {
			t.Fatalf("%d came out behind %d", key, last)
		}
		last = key
	}
}
