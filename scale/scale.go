// Package scale turns labels that are float64 into whole numbers, exactly or not at all, and whole numbers back into the nearest float64.
package scale

import (
	"math/bits"

	"compass/api"
)

// MaxMost is the greatest bound that Admit takes.
const MaxMost = 1 << 53

// Admit: whole numbers and an exponent, so that each label is its number times 2 to that exponent.
func Admit(labels []float64, most int64) ([]int64, int, api.Fault) {
	if most < 1 || most > MaxMost {
		return nil, 0, api.Fault{Code: api.ErrRange}
	}
	if f := firstUnfit(labels); f.Code != api.OK {
		return nil, 0, f
	}
	e := commonExponent(labels)
	whole := make([]int64, len(labels))
	for i, x := range labels {
		n, fits := wholeOf(x, e, most)
		if !fits {
			return nil, 0, api.Fault{Code: api.ErrWide, At: i}
		}
		whole[i] = n
	}
	return whole, e, api.Fault{}
}

// Back: the float64 nearest to n times 2^e.
func Back(n int64, e int) float64 {
	if n == 0 {
		return 0
	}
	// Beyond the bound the answer is 0 or infinite whatever n is, and sums of exponents might wrap.
	e = max(-farExponent, min(e, farExponent))
	return nearest(n < 0, magnitude(n), false, e)
}

// Quotient: the float64 nearest to a fraction.
func Quotient(num, den int64) (float64, api.Errno) {
	if den == 0 {
		return 0, api.ErrZero
	}
	if num == 0 {
		return 0, api.OK
	}
	upper, lower := magnitude(num), magnitude(den)
	upShift, lowShift := bits.LeadingZeros64(upper), bits.LeadingZeros64(lower)
	upper, lower = upper<<upShift, lower<<lowShift
	// With the highest bits of both set, 2^63 times the fraction has 63 or 64 bits: more than a float64 holds.
	whole, rest := bits.Div64(upper>>1, upper<<63, lower)
	return nearest((num < 0) != (den < 0), whole, rest != 0, lowShift-upShift-63), api.OK
}

// Strict: -1, 0 or 1: by value, -0 ahead of +0, what is no number behind all.
func Strict(a, b float64) int {
	first, second := rank(a), rank(b)
	switch {
	case first < second || first == second && a < b:
		return -1
	case first > second || first == second && a > b:
		return 1
	}
	return 0
}

// Least: the place of the least label.
func Least(labels []float64) (int, api.Errno) {
	best := -1
	for i, x := range labels {
		if rank(x) != rankNone && (best < 0 || Strict(x, labels[best]) < 0) {
			best = i
		}
	}
	if best < 0 {
		return 0, api.ErrNone
	}
	return best, api.OK
}
