package scale_test

import (
	"math"
	"math/big"
	"slices"
	"testing"

	"compass/api"
	"compass/scale"
	"compass/trial"
)

var (
	nan    = math.NaN()
	inf    = math.Inf(1)
	zero   = 0.0
	minus0 = math.Copysign(0, -1)
)

// alike: the same bits, so that -0 isn't +0.
func alike(a, b float64) bool { return math.Float64bits(a) == math.Float64bits(b) }

func power(e int) *big.Rat {
	one := big.NewInt(1)
	if e < 0 {
		return new(big.Rat).SetFrac(one, new(big.Int).Lsh(one, uint(-e)))
	}
	return new(big.Rat).SetInt(new(big.Int).Lsh(one, uint(e)))
}

func times(n int64, e int) *big.Rat {
	r := power(e)
	return r.Mul(r, new(big.Rat).SetInt64(n))
}

func TestP2_1AdmitExamples(t *testing.T) {
	for _, c := range []struct {
		labels []float64
		most   int64
		want   []int64
		exp    int
	}{
		{nil, 1, nil, 0},
		{[]float64{}, scale.MaxMost, nil, 0},
		{[]float64{0.5, 3}, 100, []int64{1, 6}, -1},
		{[]float64{0.5, 3, minus0}, 6, []int64{1, 6, 0}, -1},
		{[]float64{zero, minus0}, 1, []int64{0, 0}, 0},
		{[]float64{minus0, 0, 8}, 1, []int64{0, 0, 1}, 3},
		{[]float64{12, 8}, 3, []int64{3, 2}, 2},
		{[]float64{-1.5, 1}, 3, []int64{-3, 2}, -1},
		{[]float64{math.MaxFloat64}, scale.MaxMost, []int64{1<<53 - 1}, 971},
		{[]float64{-math.MaxFloat64, 0}, 1<<53 - 1, []int64{-(1<<53 - 1), 0}, 971},
		{[]float64{math.SmallestNonzeroFloat64}, 1, []int64{1}, -1074},
		{[]float64{-math.SmallestNonzeroFloat64, 0x1p-1071}, 8, []int64{-1, 8}, -1074},
		{[]float64{0x1p-1022, 0x1.8p-1022}, 3, []int64{2, 3}, -1023},
		{[]float64{0x1p-1023}, 1, []int64{1}, -1023},
		{[]float64{0x0.fffffffffffffp-1022}, 1<<52 - 1, []int64{1<<52 - 1}, -1074},
		{[]float64{1 << 53, 1}, 1 << 53, []int64{1 << 53, 1}, 0},
		{[]float64{0x1p1023}, 1, []int64{1}, 1023},
	} {
		n, e, f := scale.Admit(c.labels, c.most)
		if !slices.Equal(n, c.want) || e != c.exp || f != (api.Fault{}) {
			t.Errorf("Admit(%v, %d): %v, %d, %v", c.labels, c.most, n, e, f)
		}
	}
}

func TestP2_1AdmitRefuses(t *testing.T) {
	for _, c := range []struct {
		labels []float64
		most   int64
		want   api.Fault
	}{
		{nil, 0, api.Fault{Code: api.ErrRange}},
		{[]float64{1, nan}, -1, api.Fault{Code: api.ErrRange}},
		{[]float64{inf}, scale.MaxMost + 1, api.Fault{Code: api.ErrRange}},
		{nil, math.MinInt64, api.Fault{Code: api.ErrRange}},
		{nil, math.MaxInt64, api.Fault{Code: api.ErrRange}},
		{[]float64{1, nan, inf}, 100, api.Fault{Code: api.ErrNaN, At: 1}},
		{[]float64{1, 2, -inf, nan}, 100, api.Fault{Code: api.ErrInf, At: 2}},
		{[]float64{inf}, 100, api.Fault{Code: api.ErrInf}},
		{[]float64{0.1, 1e300, nan}, 1, api.Fault{Code: api.ErrNaN, At: 2}},
		{[]float64{0.1, 1}, 1 << 20, api.Fault{Code: api.ErrWide}},
		{[]float64{1, 0.1}, 1 << 20, api.Fault{Code: api.ErrWide}},
		{[]float64{0, 1, 0.5, 100}, 100, api.Fault{Code: api.ErrWide, At: 3}},
		{[]float64{0.5, 3}, 5, api.Fault{Code: api.ErrWide, At: 1}},
		{[]float64{0.5, -3}, 5, api.Fault{Code: api.ErrWide, At: 1}},
		{[]float64{1, 1<<53 + 2}, scale.MaxMost, api.Fault{Code: api.ErrWide, At: 1}},
		{[]float64{math.MaxFloat64, math.SmallestNonzeroFloat64}, scale.MaxMost, api.Fault{Code: api.ErrWide}},
		{[]float64{math.SmallestNonzeroFloat64, 1}, scale.MaxMost, api.Fault{Code: api.ErrWide, At: 1}},
		{[]float64{1, 0x1p64}, scale.MaxMost, api.Fault{Code: api.ErrWide, At: 1}},
		{[]float64{1, 0x1.8p63, 3}, scale.MaxMost, api.Fault{Code: api.ErrWide, At: 1}},
		{[]float64{math.MaxFloat64}, 1<<53 - 2, api.Fault{Code: api.ErrWide}},
	} {
		n, e, f := scale.Admit(c.labels, c.most)
		if len(n) != 0 || e != 0 || f != c.want {
			t.Errorf("Admit(%v, %d): %v, %d, %v", c.labels, c.most, n, e, f)
		}
	}
}

// TestP2_1AdmitIsExact: each number times 2^e is its label, and at a greater e some wouldn't be whole.
func TestP2_1AdmitIsExact(t *testing.T) {
	next := trial.NewScatter(0).Next
	for round := range 4000 {
		labels := make([]float64, 1+next()%5)
		base := int(next()%2000) - 1040
		for i := range labels {
			labels[i] = math.Ldexp(float64(int64(next())>>(12+next()%50)), base+int(next()%8))
		}
		most := int64(1 + next()%scale.MaxMost>>(round%53))
		checkAdmit(t, labels, most)
	}
}

// commonScale: the greatest e at which all labels are whole; 0, if all are 0.
func commonScale(labels []float64) int {
	least, some := 0, false
	for _, x := range labels {
		if x == 0 {
			continue
		}
		_, e := math.Frexp(x)
		for !new(big.Rat).Quo(new(big.Rat).SetFloat64(x), power(e)).IsInt() {
			e--
		}
		if !some || e < least {
			least, some = e, true
		}
	}
	return least
}

func checkAdmit(t *testing.T, labels []float64, most int64) {
	n, e, f := scale.Admit(labels, most)
	exp := commonScale(labels)
	for i, x := range labels {
		want := new(big.Rat).SetFloat64(x)
		want.Quo(want, power(exp))
		if new(big.Rat).Abs(want).Cmp(new(big.Rat).SetInt64(most)) > 0 {
			if len(n) != 0 || e != 0 || f != (api.Fault{Code: api.ErrWide, At: i}) {
				t.Errorf("Admit(%v, %d): %v, %d, %v", labels, most, n, e, f)
			}
			return
		}
		if f.Code == api.OK && (e != exp || len(n) != len(labels) || want.Cmp(new(big.Rat).SetInt64(n[i])) != 0) {
			t.Errorf("Admit(%v, %d): %v, %d, %v", labels, most, n, e, f)
			return
		}
	}
	if f != (api.Fault{}) {
		t.Errorf("Admit(%v, %d): %v", labels, most, f)
	}
}

func TestP2_2Back(t *testing.T) {
	for _, c := range []struct {
		n    int64
		e    int
		want float64
	}{
		{6, -1, 3},
		{-3, 2, -12},
		{0, 5, 0},
		{0, math.MinInt, 0},
		{0, math.MaxInt, 0},
		{1, 1023, 0x1p1023},
		{1, 1024, inf},
		{-1, 1024, -inf},
		{1, math.MaxInt, inf},
		{-1, math.MaxInt, -inf},
		{math.MinInt64, math.MaxInt, -inf},
		{1, math.MinInt, 0},
		{-1, math.MinInt, minus0},
		{math.MaxInt64, math.MinInt, 0},
		{math.MinInt64, math.MinInt, minus0},
		{1, -1074, math.SmallestNonzeroFloat64},
		{1, -1075, 0}, // as near to 0 as to the least: the even one
		{-1, -1075, minus0},
		{3, -1076, math.SmallestNonzeroFloat64},
		{3, -1075, 0x1p-1073}, // as near to 1 as to 2
		{5, -1075, 0x1p-1073}, // as near to 2 as to 3
		{math.MinInt64, -1138, minus0},
		{math.MinInt64, -1137, -math.SmallestNonzeroFloat64},
		{-1<<63 + 1, -1138, minus0},
		{1<<62 + 1, -1137, math.SmallestNonzeroFloat64},
		{1 << 62, -1137, 0},
		{math.MinInt64, 0, -0x1p63},
		{math.MaxInt64, 0, 0x1p63},
		{1<<53 + 1, 0, 1 << 53},
		{1<<53 + 3, 0, 1<<53 + 4},
		{1<<53 - 1, 971, math.MaxFloat64},
		{1<<54 - 1, 970, inf}, // half a last bit beyond the greatest
		{-(1<<54 - 1), 970, -inf},
		{1<<62 - 1<<8 - 1, 962, math.MaxFloat64}, // just less than half
		{1<<53 - 1, 972, inf},
		{1<<53 - 1, -1075, 0x1p-1022}, // up to the least with a hidden bit
		{1<<54 - 3, -1076, 0x0.fffffffffffffp-1022},
		{1<<63 - 1, -1085, 0x1p-1022},
	} {
		if x := scale.Back(c.n, c.e); !alike(x, c.want) {
			t.Errorf("Back(%d, %d): %x, not %x", c.n, c.e, x, c.want)
		}
	}
}

func TestP2_2BackIsNearest(t *testing.T) {
	next := trial.NewScatter(0).Next
	check := func(n int64, e int) {
		want, _ := times(n, e).Float64()
		if n == 0 {
			want = 0
		}
		if x := scale.Back(n, e); !alike(x, want) {
			t.Errorf("Back(%d, %d): %x, not %x", n, e, x, want)
		}
	}
	for range 60000 {
		check(int64(next())>>(next()%64), int(next()%2400)-1200)
	}
	// Halves of a last bit, and what is just beside them, where rounding turns.
	for shift := range 12 {
		for _, beside := range []int64{-1, 0, 1} {
			for _, e := range []int{0, 900, 970 - shift, 971 - shift, -1074 - shift, -1075 - shift, -1084, -1100, -1127} {
				kept := int64(1<<52 | next()>>13)
				check(kept<<shift+1<<shift>>1+beside, e)
				check(-(kept<<shift + 1<<shift>>1 + beside), e)
			}
		}
	}
	for _, e := range []int{-5000, -2049, -2048, -2047, -1139, -1138, -1137, 960, 961, 1024, 1087, 2047, 2048, 2049, 5000} {
		for _, n := range []int64{math.MinInt64, -3, -1, 1, 3, math.MaxInt64} {
			check(n, e)
		}
	}
}

func TestP2_3Quotient(t *testing.T) {
	for _, c := range []struct {
		num, den int64
		want     float64
	}{
		{1, 3, 1.0 / 3.0},
		{-1, 3, -1.0 / 3.0},
		{1, -3, -1.0 / 3.0},
		{-2, -4, 0.5},
		{0, 5, 0},
		{0, -5, 0},
		{0, math.MinInt64, 0},
		{math.MinInt64, 1, -0x1p63},
		{math.MinInt64, -1, 0x1p63},
		{math.MinInt64, math.MinInt64, 1},
		{1, math.MinInt64, -0x1p-63},
		{math.MaxInt64, 1, 0x1p63},
		{math.MaxInt64, math.MinInt64, -1},
		{1, math.MaxInt64, 0x1p-63},
		{1<<53 + 1, 1, 1 << 53},
		{1<<53 + 3, -1, -(1<<53 + 4)},
		{1<<54 + 2, 2, 1 << 53},
		{1<<53 + 1, 1 << 53, 1},
		{1<<62 + 1<<9, 1<<62 - 1, 0x1.0000000000001p0}, // just above half a last bit
	} {
		if x, e := scale.Quotient(c.num, c.den); !alike(x, c.want) || e != api.OK {
			t.Errorf("Quotient(%d, %d): %x, %d", c.num, c.den, x, int(e))
		}
	}
	for _, num := range []int64{math.MinInt64, -1, 0, 1, math.MaxInt64} {
		if x, e := scale.Quotient(num, 0); !alike(x, 0) || e != api.ErrZero {
			t.Errorf("Quotient(%d, 0): %x, %d", num, x, int(e))
		}
	}
}

func TestP2_3QuotientIsNearest(t *testing.T) {
	next := trial.NewScatter(0).Next
	check := func(num, den int64) {
		if den == 0 {
			return
		}
		want, _ := new(big.Rat).SetFrac(big.NewInt(num), big.NewInt(den)).Float64()
		if x, e := scale.Quotient(num, den); !alike(x, want) || e != api.OK {
			t.Errorf("Quotient(%d, %d): %x, not %x", num, den, x, want)
		}
	}
	for range 60000 {
		check(int64(next())>>(next()%64), int64(next())>>(next()%64))
	}
	for range 3000 {
		// A fraction within 2^-62 of half a last bit.
		kept, den := int64(1<<53|next()>>11|1), int64(1+next()%511)
		for beside := int64(-2); beside <= 2; beside++ {
			check(kept*den+beside, den)
			check(kept*den+beside, -den)
		}
	}
}

func TestP2_4Strict(t *testing.T) {
	other := math.Float64frombits(0xfff8000000000001)
	rows := [][]float64{
		{-inf}, {-math.MaxFloat64}, {-1}, {-math.SmallestNonzeroFloat64}, {minus0}, {zero},
		{math.SmallestNonzeroFloat64}, {0.5}, {1}, {math.MaxFloat64}, {inf}, {nan, -nan, other},
	}
	for i, row := range rows {
		for j, column := range rows {
			want := 0
			if i < j {
				want = -1
			} else if i > j {
				want = 1
			}
			for _, a := range row {
				for _, b := range column {
					if got := scale.Strict(a, b); got != want {
						t.Errorf("Strict(%v, %v): %d", a, b, got)
					}
				}
			}
		}
	}
}

func TestP2_4Least(t *testing.T) {
	for _, c := range []struct {
		labels []float64
		want   int
		code   api.Errno
	}{
		{nil, 0, api.ErrNone},
		{[]float64{nan, nan}, 0, api.ErrNone},
		{[]float64{0, minus0}, 1, api.OK},
		{[]float64{minus0, 0, minus0}, 0, api.OK},
		{[]float64{0, 0}, 0, api.OK},
		{[]float64{nan, inf, nan}, 1, api.OK},
		{[]float64{nan, inf, 7, 7, nan}, 2, api.OK},
		{[]float64{3, -inf, nan, -inf}, 1, api.OK},
		{[]float64{5, 4, 4, 6}, 1, api.OK},
		{[]float64{1, minus0, -math.SmallestNonzeroFloat64}, 2, api.OK},
	} {
		if i, e := scale.Least(c.labels); i != c.want || e != c.code {
			t.Errorf("Least(%v): %d, %d", c.labels, i, int(e))
		}
	}
}

func bitsOf(labels []float64) []uint64 {
	list := make([]uint64, len(labels))
	for i, x := range labels {
		list[i] = math.Float64bits(x)
	}
	return list
}

func TestP2ListsStayAsTheyAre(t *testing.T) {
	for _, first := range []float64{0.5, 0.1, nan, inf} {
		whole := []float64{first, minus0, 3, nan, -7}
		before := bitsOf(whole)
		scale.Admit(whole[:3], 100)
		scale.Admit(whole[:3], 0)
		scale.Least(whole[:4])
		if !slices.Equal(bitsOf(whole), before) {
			t.Errorf("a list or its spare room was changed: %v", whole)
		}
	}
}

func TestP2AnswersAreNewMemory(t *testing.T) {
	labels := []float64{0.5, 3, 4}
	first, _, _ := scale.Admit(labels, 100)
	second, _, _ := scale.Admit(labels, 100)
	for i := range first[:cap(first)] {
		first[:cap(first)][i] = -99
	}
	if !slices.Equal(second, []int64{1, 6, 8}) || !slices.Equal(labels, []float64{0.5, 3, 4}) {
		t.Errorf("answers share memory: %v, %v", second, labels)
	}
	if third, e, f := scale.Admit(labels, 100); !slices.Equal(third, []int64{1, 6, 8}) || e != -1 || f != (api.Fault{}) {
		t.Errorf("an answer hangs on an earlier one: %v", third)
	}
}
