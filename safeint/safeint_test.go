package safeint_test

import (
	"math"
	"math/big"
	"slices"
	"testing"

	"compass/api"
	"compass/safeint"
	"compass/trial"
)

// edges: numbers about which sums, products and signs turn.
func edges() []int64 {
	list := []int64{0, 6, 7, 10, 1000000007, 3037000499, 3037000500, 6148914691236517205}
	for _, shift := range []int{0, 1, 2, 16, 31, 32, 33, 61, 62} {
		list = append(list, 1<<shift-1, 1<<shift, 1<<shift+1)
	}
	list = append(list, math.MaxInt64-1, math.MaxInt64)
	for _, x := range slices.Clone(list) {
		list = append(list, -x, -x-1)
	}
	slices.Sort(list)
	return slices.Compact(list)
}

// scattered: as many numbers of all lengths, the same in each run.
func scattered(count int) []int64 {
	list := make([]int64, count)
	row := trial.NewScatter(9)
	for i := range list {
		list[i] = int64(row.Next()) >> (i % 64)
	}
	return list
}

func wideEdges() []safeint.Wide {
	var list []safeint.Wide
	for _, high := range []int64{math.MinInt64, math.MinInt64 + 1, -2, -1, 0, 1, 2, math.MaxInt64 - 1, math.MaxInt64} {
		for _, low := range []uint64{0, 1, 2, math.MaxInt64, 1 << 63, 1<<63 + 1, math.MaxUint64 - 1, math.MaxUint64} {
			list = append(list, safeint.Wide{Hi: high, Lo: low})
		}
	}
	return list
}

func bigOf(x safeint.Wide) *big.Int {
	n := new(big.Int).Lsh(big.NewInt(x.Hi), 64)
	return n.Add(n, new(big.Int).SetUint64(x.Lo))
}

// fits: is n from -2^bits to 2^bits - 1?
func fits(n *big.Int, bits uint) bool {
	end := new(big.Int).Lsh(big.NewInt(1), bits)
	return n.Cmp(end) < 0 && n.Cmp(new(big.Int).Neg(end)) >= 0
}

func same(got int64, e api.Errno, want *big.Int) bool {
	if !fits(want, 63) {
		return got == 0 && e == api.ErrWrap
	}
	return e == api.OK && got == want.Int64()
}

func TestP1_1AddSubMul(t *testing.T) {
	check := func(a, b int64) {
		x, y := big.NewInt(a), big.NewInt(b)
		if n, e := safeint.Add(a, b); !same(n, e, new(big.Int).Add(x, y)) {
			t.Errorf("Add(%d, %d): %d, %d", a, b, n, int(e))
		}
		if n, e := safeint.Sub(a, b); !same(n, e, new(big.Int).Sub(x, y)) {
			t.Errorf("Sub(%d, %d): %d, %d", a, b, n, int(e))
		}
		if n, e := safeint.Mul(a, b); !same(n, e, new(big.Int).Mul(x, y)) {
			t.Errorf("Mul(%d, %d): %d, %d", a, b, n, int(e))
		}
	}
	for _, a := range edges() {
		for _, b := range edges() {
			check(a, b)
		}
	}
	list := scattered(20000)
	for i := range len(list) - 33 {
		check(list[i], list[i+33])
	}
}

func TestP1_1Ends(t *testing.T) {
	if n, e := safeint.Add(math.MaxInt64, 1); n != 0 || e != api.ErrWrap {
		t.Error("Add past the upper end")
	}
	if n, e := safeint.Add(math.MinInt64, -1); n != 0 || e != api.ErrWrap {
		t.Error("Add past the lower end")
	}
	if n, e := safeint.Sub(-1, math.MinInt64); n != math.MaxInt64 || e != api.OK {
		t.Error("Sub to the upper end")
	}
	if n, e := safeint.Sub(0, math.MinInt64); n != 0 || e != api.ErrWrap {
		t.Error("Sub past the upper end")
	}
	if n, e := safeint.Mul(math.MinInt64, -1); n != 0 || e != api.ErrWrap {
		t.Error("Mul past the upper end")
	}
}

func TestP1_2Div(t *testing.T) {
	for _, a := range edges() {
		for _, b := range edges() {
			q, r, e := safeint.Div(a, b)
			if b == 0 || a == math.MinInt64 && b == -1 {
				want := api.ErrWrap
				if b == 0 {
					want = api.ErrZero
				}
				if q != 0 || r != 0 || e != want {
					t.Errorf("Div(%d, %d): %d, %d, %d", a, b, q, r, int(e))
				}
				continue
			}
			rest := new(big.Int).Mul(big.NewInt(q), big.NewInt(b))
			rest.Sub(big.NewInt(a), rest)
			inside := r == 0 || b > 0 && r > 0 && r < b || b < 0 && r < 0 && r > b
			if e != api.OK || rest.Cmp(big.NewInt(r)) != 0 || !inside {
				t.Errorf("Div(%d, %d): %d, %d, %d", a, b, q, r, int(e))
			}
		}
	}
}

func TestP1_2DivRoundsDown(t *testing.T) {
	for _, c := range [][4]int64{{-7, 2, -4, 1}, {7, -2, -4, -1}, {-7, -2, 3, -1}, {7, 2, 3, 1}, {-6, 2, -3, 0}, {0, -5, 0, 0}} {
		if q, r, e := safeint.Div(c[0], c[1]); q != c[2] || r != c[3] || e != api.OK {
			t.Errorf("Div(%d, %d): %d, %d, %d", c[0], c[1], q, r, int(e))
		}
	}
}

func TestP1_3WidenNarrowProduct(t *testing.T) {
	for _, a := range edges() {
		x := safeint.Widen(a)
		if bigOf(x).Cmp(big.NewInt(a)) != 0 {
			t.Errorf("Widen(%d): %v", a, x)
		}
		if n, e := safeint.Narrow(x); n != a || e != api.OK {
			t.Errorf("Narrow of %d: %d, %d", a, n, int(e))
		}
		for _, b := range edges() {
			if bigOf(safeint.Product(a, b)).Cmp(new(big.Int).Mul(big.NewInt(a), big.NewInt(b))) != 0 {
				t.Errorf("Product(%d, %d): %v", a, b, safeint.Product(a, b))
			}
		}
	}
	for _, x := range wideEdges() {
		if n, e := safeint.Narrow(x); !same(n, e, bigOf(x)) {
			t.Errorf("Narrow(%v): %d, %d", x, n, int(e))
		}
	}
}

func TestP1_3PlusCompare(t *testing.T) {
	for _, x := range wideEdges() {
		for _, y := range wideEdges() {
			if c := safeint.Compare(x, y); c != bigOf(x).Cmp(bigOf(y)) {
				t.Errorf("Compare(%v, %v): %d", x, y, c)
			}
			sum, e := safeint.Plus(x, y)
			want := new(big.Int).Add(bigOf(x), bigOf(y))
			if fits(want, 127) && (e != api.OK || bigOf(sum).Cmp(want) != 0) {
				t.Errorf("Plus(%v, %v): %v, %d", x, y, sum, int(e))
			}
			if !fits(want, 127) && (e != api.ErrWrap || sum != safeint.Wide{}) {
				t.Errorf("Plus(%v, %v) past the end: %v, %d", x, y, sum, int(e))
			}
		}
	}
}

func TestP1_4Sum(t *testing.T) {
	const end, start = math.MaxInt64, math.MinInt64
	for _, c := range []struct {
		list []int64
		want int64
		code api.Errno
	}{
		{nil, 0, api.OK},
		{[]int64{5}, 5, api.OK},
		{[]int64{1 << 62, 1 << 62, -1 << 62}, 1 << 62, api.OK},
		{[]int64{end, end, end, start, start, start, 3}, 0, api.OK},
		{[]int64{start, start, end, end, 2}, 0, api.OK},
		{[]int64{end, end, start, 1, -1, 1}, end, api.OK},
		{[]int64{end, 1}, 0, api.ErrWrap},
		{[]int64{start, -1}, 0, api.ErrWrap},
		{[]int64{start, -1, 1}, start, api.OK},
		{[]int64{end, end, end}, 0, api.ErrWrap},
	} {
		if n, e := safeint.Sum(c.list...); n != c.want || e != c.code {
			t.Errorf("Sum of %v: %d, %d", c.list, n, int(e))
		}
	}
	list := scattered(5000)
	for i := range len(list) - 64 {
		want := new(big.Int)
		for _, x := range list[i : i+i%64] {
			want.Add(want, big.NewInt(x))
		}
		if n, e := safeint.Sum(list[i : i+i%64]...); !same(n, e, want) {
			t.Errorf("Sum of %v: %d, %d", list[i:i+i%64], n, int(e))
		}
	}
}

// stepwise: Poly in numbers that can't wrap.
func stepwise(coefficients []int64, x int64) (int64, api.Errno) {
	value := new(big.Int)
	for _, c := range coefficients {
		value.Mul(value, big.NewInt(x))
		if !fits(value, 63) {
			return 0, api.ErrWrap
		}
		value.Add(value, big.NewInt(c))
		if !fits(value, 63) {
			return 0, api.ErrWrap
		}
	}
	return value.Int64(), api.OK
}

func TestP1_4Poly(t *testing.T) {
	for _, c := range []struct {
		list []int64
		x    int64
		want int64
		code api.Errno
	}{
		{nil, 7, 0, api.OK},
		{[]int64{math.MinInt64}, math.MaxInt64, math.MinInt64, api.OK},
		{[]int64{2, 0, 1}, 3, 19, api.OK},
		{[]int64{1 << 62, 0}, 2, 0, api.ErrWrap},             // the product
		{[]int64{1 << 62, math.MinInt64}, 2, 0, api.ErrWrap}, // the product, though the sum would fit
		{[]int64{1, math.MaxInt64}, 1, 0, api.ErrWrap},       // the sum
		{[]int64{1, math.MaxInt64, 0}, 0, 0, api.OK},         // times 0 ahead of each sum
		{[]int64{1, math.MaxInt64, -5}, 1, 0, api.ErrWrap},   // the sum in between, though the last would fit
		{[]int64{-1 << 62, 0}, 2, math.MinInt64, api.OK},     // to the end
		{[]int64{-1 << 62, -1}, 2, 0, api.ErrWrap},           // past it
		{[]int64{math.MinInt64, 0}, -1, 0, api.ErrWrap},      // past the other end
		{[]int64{1, 1, 1}, -2, 3, api.OK},                    // alternating signs
		{[]int64{0, 0, 0, 9}, math.MinInt64, 9, api.OK},      // noughts ahead
		{[]int64{3037000500, 0}, 3037000500, 0, api.ErrWrap}, // just past the root of 2^63
		{[]int64{3037000499, 0}, 3037000499, 9223372030926249001, api.OK},
	} {
		if n, e := safeint.Poly(c.list, c.x); n != c.want || e != c.code {
			t.Errorf("Poly(%v, %d): %d, %d", c.list, c.x, n, int(e))
		}
	}
	list := scattered(3000)
	for i := range len(list) - 8 {
		for _, x := range []int64{list[i+7], list[i+7] % 8, math.MinInt64, -1, 0, 1} {
			part := list[i : i+i%7]
			want, code := stepwise(part, x)
			if n, e := safeint.Poly(part, x); n != want || e != code {
				t.Errorf("Poly(%v, %d): %d, %d", part, x, n, int(e))
			}
		}
	}
}

func TestP1_5Gcd(t *testing.T) {
	for _, a := range edges() {
		for _, b := range edges() {
			x, y := new(big.Int).Abs(big.NewInt(a)), new(big.Int).Abs(big.NewInt(b))
			if g := safeint.Gcd(a, b); new(big.Int).GCD(nil, nil, x, y).Cmp(new(big.Int).SetUint64(g)) != 0 {
				t.Errorf("Gcd(%d, %d): %d", a, b, g)
			}
		}
	}
	if g := safeint.Gcd(math.MinInt64, 0); g != 1<<63 {
		t.Errorf("Gcd(-2^63, 0): %d", g)
	}
	if g := safeint.Gcd(0, 0); g != 0 {
		t.Errorf("Gcd(0, 0): %d", g)
	}
}

func TestP1_5NewRatio(t *testing.T) {
	for _, n := range edges() {
		for _, d := range edges() {
			r, e := safeint.NewRatio(n, d)
			if d == 0 {
				if e != api.ErrZero || (r != safeint.Ratio{}) {
					t.Errorf("NewRatio(%d, 0): %v, %d", n, r, int(e))
				}
				continue
			}
			want := big.NewRat(n, 1)
			want.Quo(want, big.NewRat(d, 1))
			if !fits(want.Num(), 63) || !fits(want.Denom(), 63) {
				if e != api.ErrWrap || (r != safeint.Ratio{}) {
					t.Errorf("NewRatio(%d, %d) past the end: %v, %d", n, d, r, int(e))
				}
				continue
			}
			if e != api.OK || r.Num != want.Num().Int64() || r.Den != want.Denom().Int64() {
				t.Errorf("NewRatio(%d, %d): %v, %d", n, d, r, int(e))
			}
		}
	}
}

func TestP1_5NewRatioEnds(t *testing.T) {
	const start = math.MinInt64
	for _, c := range []struct {
		n, d int64
		want safeint.Ratio
		code api.Errno
	}{
		{6, -4, safeint.Ratio{Num: -3, Den: 2}, api.OK},
		{0, -9, safeint.Ratio{Num: 0, Den: 1}, api.OK},
		{0, start, safeint.Ratio{Num: 0, Den: 1}, api.OK},
		{start, 1, safeint.Ratio{Num: start, Den: 1}, api.OK},
		{start, start, safeint.Ratio{Num: 1, Den: 1}, api.OK},
		{2, start, safeint.Ratio{Num: -1, Den: 1 << 62}, api.OK},
		{start, -1, safeint.Ratio{}, api.ErrWrap},
		{1, start, safeint.Ratio{}, api.ErrWrap},
		{-1, start, safeint.Ratio{}, api.ErrWrap},
		{0, 0, safeint.Ratio{}, api.ErrZero},
		{start, 0, safeint.Ratio{}, api.ErrZero},
	} {
		if r, e := safeint.NewRatio(c.n, c.d); r != c.want || e != c.code {
			t.Errorf("NewRatio(%d, %d): %v, %d", c.n, c.d, r, int(e))
		}
	}
}

func TestP1_6Order(t *testing.T) {
	list := []int64{math.MinInt64, math.MinInt64 + 1, -1 << 32, -3, -2, -1, 0, 1, 2, 3, 1 << 32, 1<<62 + 1, math.MaxInt64 - 1, math.MaxInt64}
	for _, a := range list {
		for _, b := range list {
			for _, c := range list {
				for _, d := range list {
					checkOrder(t, a, b, c, d)
				}
			}
		}
	}
	many := scattered(4000)
	for i := range len(many) - 50 {
		checkOrder(t, many[i], many[i+9], many[i+33], many[i+50])
	}
}

func checkOrder(t *testing.T, a, b, c, d int64) {
	n, e := safeint.Order(a, b, c, d)
	if b == 0 || d == 0 {
		if n != 0 || e != api.ErrZero {
			t.Errorf("Order(%d, %d, %d, %d): %d, %d", a, b, c, d, n, int(e))
		}
		return
	}
	left := new(big.Rat).SetFrac(big.NewInt(a), big.NewInt(b))
	right := new(big.Rat).SetFrac(big.NewInt(c), big.NewInt(d))
	if e != api.OK || n != left.Cmp(right) {
		t.Errorf("Order(%d, %d, %d, %d): %d, %d", a, b, c, d, n, int(e))
	}
}

func TestP2ListsStayAsTheyAre(t *testing.T) {
	for _, first := range []int64{1, math.MaxInt64} {
		whole := []int64{first, 2, 3, math.MaxInt64, -5, -6}
		before := slices.Clone(whole)
		safeint.Sum(whole[:4]...)
		safeint.Poly(whole[:4], 3)
		if !slices.Equal(whole, before) {
			t.Errorf("a list or its spare room was changed: %v", whole)
		}
	}
}

func TestP2ARefusedCallLeavesNothing(t *testing.T) {
	for range 3 {
		if n, e := safeint.Sum(math.MaxInt64, 1); n != 0 || e != api.ErrWrap {
			t.Error("Sum past the end")
		}
		if n, e := safeint.Poly([]int64{math.MaxInt64, 0}, 2); n != 0 || e != api.ErrWrap {
			t.Error("Poly past the end")
		}
		if n, e := safeint.Sum(1, 2); n != 3 || e != api.OK {
			t.Error("Sum behind a refused one")
		}
		if n, e := safeint.Poly([]int64{1, 2}, 2); n != 4 || e != api.OK {
			t.Error("Poly behind a refused one")
		}
	}
}
