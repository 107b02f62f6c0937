package heaps_test

import (
	"math"
	"slices"
	"testing"

	"compass/api"
	"compass/heaps"
	"compass/trial"
)

var kinds = []int{heaps.Binary, heaps.Pairing, heaps.Fibonacci, heaps.Radix}

func queueOf(t *testing.T, kind, n int) *heaps.Queue {
	t.Helper()
	q, code := heaps.New(kind, n)
	if q == nil || code != api.OK {
		t.Fatalf("New(%d, %d): %v, %v", kind, n, q, code)
	}
	return q
}

// outside: numbers that none of n handles have.
func outside(n int) []int { return []int{-1, n, n + 1, math.MinInt, math.MaxInt} }

// plain is a queue as the document's words say it, without any order in it.
type plain struct {
	kind int
	key  []int64
	held []bool
	last int64 // the key of the last Pop
	some bool  // has there been one?
}

func plainOf(kind, n int) *plain {
	return &plain{kind: kind, key: make([]int64, n), held: make([]bool, n)}
}

func (p *plain) tooLow(key int64) bool {
	switch {
	case p.kind != heaps.Radix:
		return false
	case p.some:
		return key < p.last
	}
	return key < 0
}

func (p *plain) push(h int, key int64) api.Errno {
	switch {
	case h < 0 || h >= len(p.key):
		return api.ErrNode
	case p.held[h]:
		return api.ErrHeld
	case p.tooLow(key):
		return api.ErrMinus
	}
	p.key[h], p.held[h] = key, true
	return api.OK
}

func (p *plain) lower(h int, key int64) api.Errno {
	switch {
	case h < 0 || h >= len(p.key):
		return api.ErrNode
	case !p.held[h]:
		return api.ErrMissing
	case key > p.key[h]:
		return api.ErrRise
	case p.tooLow(key):
		return api.ErrMinus
	}
	p.key[h] = key
	return api.OK
}

func (p *plain) keyOf(h int) (int64, api.Errno) {
	switch {
	case h < 0 || h >= len(p.key):
		return 0, api.ErrNode
	case !p.held[h]:
		return 0, api.ErrMissing
	}
	return p.key[h], api.OK
}

func (p *plain) count() int {
	count := 0
	for _, held := range p.held {
		if held {
			count++
		}
	}
	return count
}

func (p *plain) top() (int, int64, api.Errno) {
	best := -1
	for h, held := range p.held {
		if held && (best < 0 || p.key[h] < p.key[best]) {
			best = h
		}
	}
	if best < 0 {
		return 0, 0, api.ErrNone
	}
	return best, p.key[best], api.OK
}

func (p *plain) pop() (int, int64, api.Errno) {
	h, key, code := p.top()
	if code == api.OK {
		p.held[h] = false
		p.last, p.some = key, true
	}
	return h, key, code
}

// pair is a queue and what it must answer like.
type pair struct {
	t *testing.T
	q *heaps.Queue
	p *plain
}

func pairOf(t *testing.T, kind, n int) pair { return pair{t, queueOf(t, kind, n), plainOf(kind, n)} }

func (x pair) push(h int, key int64) {
	if got, want := x.q.Push(h, key), x.p.push(h, key); got != want {
		x.t.Helper()
		x.t.Fatalf("kind %d: Push(%d, %d): %v; it should be %v", x.p.kind, h, key, got, want)
	}
}

func (x pair) lower(h int, key int64) {
	if got, want := x.q.Lower(h, key), x.p.lower(h, key); got != want {
		x.t.Helper()
		x.t.Fatalf("kind %d: Lower(%d, %d): %v; it should be %v", x.p.kind, h, key, got, want)
	}
}

func (x pair) pop() api.Errno {
	h, key, code := x.q.Pop()
	if wantH, wantKey, wantCode := x.p.pop(); h != wantH || key != wantKey || code != wantCode {
		x.t.Helper()
		x.t.Fatalf("kind %d: Pop: %d, %d, %v; it should be %d, %d, %v", x.p.kind, h, key, code, wantH, wantKey, wantCode)
	}
	return code
}

// look: all that can be asked without a change is as it should be.
func (x pair) look() {
	if got, want := x.q.Len(), x.p.count(); got != want {
		x.t.Helper()
		x.t.Fatalf("kind %d: Len: %d; it should be %d", x.p.kind, got, want)
	}
	h, key, code := x.q.Top()
	if wantH, wantKey, wantCode := x.p.top(); h != wantH || key != wantKey || code != wantCode {
		x.t.Helper()
		x.t.Fatalf("kind %d: Top: %d, %d, %v; it should be %d, %d, %v", x.p.kind, h, key, code, wantH, wantKey, wantCode)
	}
	for h := -1; h <= len(x.p.key); h++ {
		key, code := x.q.Key(h)
		if wantKey, wantCode := x.p.keyOf(h); key != wantKey || code != wantCode {
			x.t.Helper()
			x.t.Fatalf("kind %d: Key(%d): %d, %v; it should be %d, %v", x.p.kind, h, key, code, wantKey, wantCode)
		}
	}
}

// drain pops till there is nothing left, and once more.
func (x pair) drain() {
	for x.pop() == api.OK {
	}
	x.look()
}

func TestP5_1KindsAreNumbered(t *testing.T) {
	if heaps.Binary != 1 || heaps.Pairing != 2 || heaps.Fibonacci != 3 || heaps.Radix != 4 {
		t.Errorf("the kinds are %v", kinds)
	}
}

func TestP5_1New(t *testing.T) {
	for _, kind := range kinds {
		for _, n := range []int{0, 1, 2, 1000, api.MaxNodes} {
			x := pairOf(t, kind, n)
			x.look()
			x.drain()
		}
		for _, n := range []int{-1, api.MaxNodes + 1, math.MinInt, math.MaxInt} {
			if q, code := heaps.New(kind, n); q != nil || code != api.ErrSize {
				t.Errorf("New(%d, %d): %v, %v", kind, n, q, code)
			}
		}
	}
	for _, kind := range []int{0, 5, -1, -4, 6, 1 << 32, 1<<32 + 1, math.MinInt, math.MaxInt} {
		for _, n := range []int{0, 2, api.MaxNodes, -1, api.MaxNodes + 1} {
			if q, code := heaps.New(kind, n); q != nil || code != api.ErrKind {
				t.Errorf("New(%d, %d): %v, %v", kind, n, q, code)
			}
		}
	}
}

func TestP5_1Len(t *testing.T) {
	for _, kind := range kinds {
		q := queueOf(t, kind, 3)
		for i, c := range []struct {
			do   func()
			want int
		}{
			{func() {}, 0},
			{func() { q.Push(2, 5) }, 1},
			{func() { q.Push(2, 5) }, 1},
			{func() { q.Push(3, 5) }, 1},
			{func() { q.Push(0, 5) }, 2},
			{func() { q.Lower(0, 4) }, 2},
			{func() { q.Top() }, 2},
			{func() { q.Pop() }, 1},
			{func() { q.Pop() }, 0},
			{func() { q.Pop() }, 0},
			{func() { q.Push(2, 9) }, 1},
		} {
			if c.do(); q.Len() != c.want {
				t.Errorf("kind %d, step %d: Len: %d; it should be %d", kind, i, q.Len(), c.want)
			}
		}
	}
}

func TestP5TheChaptersExample(t *testing.T) {
	for _, kind := range kinds {
		q := queueOf(t, kind, 2)
		if a, b, c := q.Push(0, 7), q.Push(1, 9), q.Lower(1, 5); a != api.OK || b != api.OK || c != api.OK {
			t.Errorf("kind %d: %v, %v, %v", kind, a, b, c)
		}
		if h, key, code := q.Pop(); h != 1 || key != 5 || code != api.OK {
			t.Errorf("kind %d: first Pop: %d, %d, %v", kind, h, key, code)
		}
		if h, key, code := q.Pop(); h != 0 || key != 7 || code != api.OK {
			t.Errorf("kind %d: second Pop: %d, %d, %v", kind, h, key, code)
		}
		if h, key, code := q.Pop(); h != 0 || key != 0 || code != api.ErrNone {
			t.Errorf("kind %d: third Pop: %d, %d, %v", kind, h, key, code)
		}
		want := api.OK
		if kind == heaps.Radix {
			want = api.ErrMinus
		}
		if code := q.Push(1, 6); code != want {
			t.Errorf("kind %d: Push(1, 6): %v; it should be %v", kind, code, want)
		}
	}
}

// extremes: keys at the edges of what a key can be.
func extremes() []int64 {
	return []int64{math.MinInt64, math.MinInt64 + 1, -1 << 62, -1, 0, 1, 1 << 62, math.MaxInt64 - 1, math.MaxInt64}
}

func TestP5_2PushRefuses(t *testing.T) {
	for _, kind := range kinds {
		x := pairOf(t, kind, 3)
		x.push(1, 5)
		for _, key := range extremes() {
			for _, h := range outside(3) {
				if code := x.q.Push(h, key); code != api.ErrNode {
					t.Errorf("kind %d: Push(%d, %d): %v", kind, h, key, code)
				}
			}
			if code := x.q.Push(1, key); code != api.ErrHeld {
				t.Errorf("kind %d: Push of a held one, key %d: %v", kind, key, code)
			}
			x.look()
		}
		x.drain()
		empty := queueOf(t, kind, 0)
		if code := empty.Push(0, 1); code != api.ErrNode {
			t.Errorf("kind %d: Push without any handle: %v", kind, code)
		}
	}
}

func TestP5_2PushTakesAllKeys(t *testing.T) {
	for _, kind := range kinds {
		x := pairOf(t, kind, 9)
		for h, key := range extremes() {
			want := api.OK
			if kind == heaps.Radix && key < 0 {
				want = api.ErrMinus
			}
			if code := x.q.Push(h, key); code != want || code != x.p.push(h, key) {
				t.Errorf("kind %d: Push(%d, %d): %v", kind, h, key, code)
			}
			x.look()
		}
		x.drain()
		x.push(3, math.MaxInt64) // the last key that a radix heap gave out is taken again
		x.push(4, math.MaxInt64-1)
		x.drain()
	}
}

func TestP5_2RadixTakesNoKeyBelowTheLastOne(t *testing.T) {
	q := queueOf(t, heaps.Radix, 4)
	expect := func(what string, got, want api.Errno) {
		t.Helper()
		if got != want {
			t.Errorf("%s: %v; it should be %v", what, got, want)
		}
	}
	expect("below 0", q.Push(0, -1), api.ErrMinus)
	q.Pop()
	expect("below 0 behind a Pop without a handle", q.Push(0, math.MinInt64), api.ErrMinus)
	expect("0", q.Push(0, 0), api.OK)
	expect("100", q.Push(1, 100), api.OK)
	q.Pop()
	expect("above the last", q.Push(2, 50), api.OK)
	q.Top()
	expect("below the top, which isn't given out", q.Push(3, 20), api.OK)
	expect("the least one", q.Lower(3, 0), api.OK)
	expect("below the last", q.Lower(3, -1), api.ErrMinus)
	q.Pop()
	q.Pop()
	expect("below the last", q.Push(0, 49), api.ErrMinus)
	expect("below the last", q.Lower(1, 49), api.ErrMinus)
	expect("the last itself", q.Push(0, 50), api.OK)
	expect("the last itself", q.Lower(1, 50), api.OK)
	q.Pop()
	q.Pop()
	if _, _, code := q.Pop(); code != api.ErrNone {
		t.Errorf("Pop: %v", code)
	}
	expect("below the last that gave out a handle", q.Push(2, 49), api.ErrMinus)
	expect("the last itself", q.Push(2, 50), api.OK)
}

func TestP5_2OtherKindsTakeKeysBelowTheLastOne(t *testing.T) {
	for _, kind := range kinds[:3] {
		x := pairOf(t, kind, 3)
		x.push(0, 10)
		x.push(1, 20)
		x.pop()
		x.push(2, -5)
		x.lower(1, math.MinInt64)
		x.look()
		x.drain()
		x.push(2, math.MinInt64)
		x.drain()
	}
}

func TestP5_3LowerRefuses(t *testing.T) {
	for _, kind := range kinds {
		x := pairOf(t, kind, 3)
		x.push(1, 5)
		x.push(2, 6)
		x.pop()
		for _, key := range extremes() {
			for _, h := range outside(3) {
				if code := x.q.Lower(h, key); code != api.ErrNode {
					t.Errorf("kind %d: Lower(%d, %d): %v", kind, h, key, code)
				}
			}
			for _, h := range []int{0, 1} { // one was never held, one isn't any more
				if code := x.q.Lower(h, key); code != api.ErrMissing {
					t.Errorf("kind %d: Lower(%d, %d) of one that isn't held: %v", kind, h, key, code)
				}
			}
		}
		for _, key := range []int64{7, 100, math.MaxInt64} {
			if code := x.q.Lower(2, key); code != api.ErrRise {
				t.Errorf("kind %d: Lower(2, %d): %v", kind, key, code)
			}
		}
		x.look()
		if code := x.q.Lower(2, 6); code != api.OK {
			t.Errorf("kind %d: Lower to the same key: %v", kind, code)
		}
		x.look()
		want := api.OK
		if kind == heaps.Radix {
			want = api.ErrMinus
		}
		if code := x.q.Lower(2, 4); code != want || code != x.p.lower(2, 4) {
			t.Errorf("kind %d: Lower below the last key given out: %v", kind, code)
		}
		x.look()
		x.drain()
	}
}

func TestP5_3Key(t *testing.T) {
	for _, kind := range kinds {
		q := queueOf(t, kind, 3)
		q.Push(1, 8)
		q.Push(2, 9)
		q.Lower(2, 3)
		q.Pop()
		for _, h := range outside(3) {
			if key, code := q.Key(h); key != 0 || code != api.ErrNode {
				t.Errorf("kind %d: Key(%d): %d, %v", kind, h, key, code)
			}
		}
		for _, h := range []int{0, 2} {
			if key, code := q.Key(h); key != 0 || code != api.ErrMissing {
				t.Errorf("kind %d: Key(%d): %d, %v", kind, h, key, code)
			}
		}
		if key, code := q.Key(1); key != 8 || code != api.OK {
			t.Errorf("kind %d: Key(1): %d, %v", kind, key, code)
		}
	}
}

func TestP5_4OfEqualKeysTheLeastHandle(t *testing.T) {
	orders := [][]int{{0, 1, 2, 3, 4}, {4, 3, 2, 1, 0}, {2, 4, 0, 3, 1}, {3, 0, 4, 1, 2}}
	for _, kind := range kinds {
		for _, order := range orders {
			pushed, lowered := pairOf(t, kind, 5), pairOf(t, kind, 5)
			for _, h := range order {
				pushed.push(h, 6)
				lowered.push(h, int64(10+h))
			}
			for _, h := range order {
				lowered.lower(h, 6)
				lowered.look()
			}
			for want := range 5 {
				if h, key, code := pushed.q.Pop(); h != want || key != 6 || code != api.OK {
					t.Errorf("kind %d: Pop: %d, %d, %v; it should be %d, 6", kind, h, key, code, want)
				}
			}
			lowered.drain()
		}
	}
}

func TestP5_4EmptyQueuesGiveNothing(t *testing.T) {
	for _, kind := range kinds {
		for _, n := range []int{0, 1, 5} {
			q := queueOf(t, kind, n)
			for range 3 {
				if h, key, code := q.Top(); h != 0 || key != 0 || code != api.ErrNone {
					t.Errorf("kind %d: Top: %d, %d, %v", kind, h, key, code)
				}
				if h, key, code := q.Pop(); h != 0 || key != 0 || code != api.ErrNone {
					t.Errorf("kind %d: Pop: %d, %d, %v", kind, h, key, code)
				}
				q.Push(n-1, 3)
				q.Pop()
			}
		}
	}
}

// TestP5AllShortRows: every row of so many calls, then what is left.
func TestP5AllShortRows(t *testing.T) {
	for _, c := range []struct{ handles, keys, calls int }{{1, 3, 5}, {2, 2, 6}, {3, 3, 4}} {
		each := c.handles * c.keys
		choices := 2*each + 1
		rows := 1
		for range c.calls {
			rows *= choices
		}
		for _, kind := range kinds {
			for row := range rows {
				x := pairOf(t, kind, c.handles)
				for range c.calls {
					choice := row % choices
					row /= choices
					h, key := choice%each/c.keys, int64(choice%c.keys)
					switch {
					case choice < each:
						x.push(h, key)
					case choice < 2*each:
						x.lower(h, key)
					default:
						x.pop()
					}
				}
				x.drain()
			}
		}
	}
}

// someKey: small ones, that are often equal, ones behind the last that came out, and any others.
func someKey(row *trial.Scatter, last int64, style int) int64 {
	switch row.Below(20) {
	case 0:
		return last
	case 1:
		return last - 1
	}
	switch style {
	case 0:
		return int64(row.Between(0, 5))
	case 1:
		return last + int64(row.Below(40))
	case 2:
		return last + int64(row.Next()>>(row.Between(1, 63)))
	case 3:
		return last + 1<<row.Below(63)
	}
	if row.Below(6) == 0 {
		return extremes()[row.Below(9)]
	}
	return int64(row.Next())
}

func someHandle(row *trial.Scatter, n int) int {
	if row.Below(40) == 0 {
		return outside(n)[row.Below(5)]
	}
	return row.Below(n)
}

// TestP5ScatteredCalls: long rows of calls of all kinds; watched at each step, and without a look in between.
func TestP5ScatteredCalls(t *testing.T) {
	row := trial.NewScatter(5)
	for round := range 2000 {
		n, style, watched := row.Between(1, 30), round/4%5, round%8 < 4
		x := pairOf(t, kinds[round%4], n)
		pops := row.Between(1, 4)
		for range 400 {
			h, key := someHandle(row, n), someKey(row, x.p.last, style)
			switch choice := row.Below(10); {
			case choice < pops:
				x.pop()
			case choice < 6:
				x.push(h, key)
			default:
				if old, code := x.p.keyOf(h); code == api.OK && row.Below(2) == 0 {
					key = min(key, old-int64(row.Below(3)))
				}
				x.lower(h, key)
			}
			if watched {
				x.look()
			}
		}
		x.drain()
	}
}

// TestP5FullQueues: as many handles as there may be.
func TestP5FullQueues(t *testing.T) {
	row := trial.NewScatter(6)
	for _, kind := range kinds {
		for style := range 5 {
			x := pairOf(t, kind, api.MaxNodes)
			for range 3 {
				for h := range api.MaxNodes {
					x.push(h, someKey(row, x.p.last, style))
				}
				for range api.MaxNodes / 2 {
					x.pop()
					for range 3 {
						h := row.Below(api.MaxNodes)
						if key, code := x.p.keyOf(h); code == api.OK && key > x.p.last {
							x.lower(h, key-int64(row.Next()>>1%uint64(key-x.p.last)))
						}
					}
				}
				x.look()
			}
			x.drain()
		}
	}
}

// TestP5KeysInARow: rising, falling and equal ones.
func TestP5KeysInARow(t *testing.T) {
	for _, kind := range kinds {
		for _, key := range []func(h int) int64{
			func(h int) int64 { return int64(h) },
			func(h int) int64 { return int64(api.MaxNodes - h) },
			func(h int) int64 { return 7 },
			func(h int) int64 { return math.MaxInt64 - int64(h) },
			func(h int) int64 { return int64(h%2) << 62 },
		} {
			x := pairOf(t, kind, api.MaxNodes)
			for h := range api.MaxNodes {
				x.push(h, key(h))
			}
			x.drain()
		}
	}
}

// TestP2QueuesGoOnByThemselves: what is called on one queue is nothing to another, and the same calls have the same answers.
func TestP2QueuesGoOnByThemselves(t *testing.T) {
	for _, kind := range kinds {
		var xs []pair
		var rows []*trial.Scatter
		for range 3 {
			xs = append(xs, pairOf(t, kind, 12))
			rows = append(rows, trial.NewScatter(7))
		}
		rows[2] = trial.NewScatter(8)
		var got [3][]int64
		for range 300 {
			for i, x := range xs {
				h, key := rows[i].Below(12), int64(rows[i].Below(100))
				x.push(h, key)
				x.lower(h, key/2)
				if rows[i].Below(3) == 0 {
					h, key, code := x.q.Top()
					got[i] = append(got[i], int64(h), key, int64(code))
					x.pop()
				}
				x.look()
			}
		}
		if !slices.Equal(got[0], got[1]) || slices.Equal(got[0], got[2]) {
			t.Errorf("kind %d: the same calls have other answers", kind)
		}
	}
}

// TestP2RefusedCallsChangeNothing: two queues, of which one gets refused calls in between.
func TestP2RefusedCallsChangeNothing(t *testing.T) {
	for _, kind := range kinds {
		row := trial.NewScatter(9)
		x := pairOf(t, kind, 8)
		for range 2000 {
			h, key := row.Below(8), x.p.last+int64(row.Below(9))
			for _, wrong := range outside(8) {
				x.push(wrong, key)
				x.lower(wrong, key)
			}
			if held, code := x.p.keyOf(h); code == api.OK {
				x.push(h, held-1)
				x.push(h, held+1)
				x.lower(h, held+1)
			} else {
				x.lower(h, key)
			}
			if kind == heaps.Radix {
				x.push(h, x.p.last-1)
				x.lower(h, x.p.last-1)
			}
			x.look()
			switch row.Below(3) {
			case 0:
				x.push(h, key)
			case 1:
				x.lower(h, key)
			default:
				x.pop()
			}
			x.look()
		}
		x.drain()
	}
}
