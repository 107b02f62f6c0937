package scale

import (
	"math"
	"math/bits"

	"compass/api"
)

// A float64 of finite value is its digits (the fraction's bits, and above them the hidden one) times 2 to an exponent of lastBit or more.
const (
	fractionBits = 52
	hiddenBit    = 1 << fractionBits
	fieldMask    = 1<<11 - 1
	infiniteBits = fieldMask << fractionBits
	lastBit      = -1074
	farExponent  = 2048
)

// The ranks of labels, in the order in which Strict takes them: only within a rank does the value tell.
const (
	rankBelow = iota
	rankMinusZero
	rankPlusZero
	rankAbove
	rankNone
)

func rank(x float64) int {
	switch {
	case math.IsNaN(x):
		return rankNone
	case x < 0:
		return rankBelow
	case x > 0:
		return rankAbove
	case math.Signbit(x):
		return rankMinusZero
	}
	return rankPlusZero
}

// firstUnfit: the first label that is no number or infinite.
func firstUnfit(labels []float64) api.Fault {
	for i, x := range labels {
		if math.IsNaN(x) {
			return api.Fault{Code: api.ErrNaN, At: i}
		}
		if math.IsInf(x, 0) {
			return api.Fault{Code: api.ErrInf, At: i}
		}
	}
	return api.Fault{}
}

// part: the odd number and the exponent that a finite label's magnitude is made of; 0 and 0 of a label 0.
func part(x float64) (odd uint64, e int) {
	all := math.Float64bits(x)
	digits, field := all&(hiddenBit-1), int(all>>fractionBits&fieldMask)
	if field > 0 {
		digits |= hiddenBit
		field--
	}
	if digits == 0 {
		return 0, 0
	}
	zeros := bits.TrailingZeros64(digits)
	return digits >> zeros, lastBit + field + zeros
}

// commonExponent: the greatest one at which all labels are whole; a label 0 is whole at any.
func commonExponent(labels []float64) int {
	least, found := 0, false
	for _, x := range labels {
		odd, e := part(x)
		if odd != 0 && (!found || e < least) {
			least, found = e, true
		}
	}
	return least
}

// wholeOf: how many times 2^e a label is, if that is at most so much; e is no greater than the label's own exponent.
func wholeOf(x float64, e int, most int64) (int64, bool) {
	odd, own := part(x)
	if odd == 0 {
		return 0, true
	}
	shift := own - e
	// The bound is shifted down, as the number shifted up might lose its highest bits.
	if odd > uint64(most)>>shift {
		return 0, false
	}
	n := int64(odd << shift)
	if x < 0 {
		n = -n
	}
	return n, true
}

// magnitude is without a sign, as that of -2^63 doesn't fit with one.
func magnitude(a int64) uint64 {
	if a < 0 {
		return -uint64(a)
	}
	return uint64(a)
}

// nearest: the float64 nearest to m times 2^e, where m is above 0; with more, m stands for something between m and m+1, and has 62 bits at least.
func nearest(negative bool, m uint64, more bool, e int) float64 {
	shift := bits.LeadingZeros64(m)
	m, e = m<<shift, e-shift
	// Of small numbers fewer digits are kept: none below the last bit that a float64 can have.
	drop := max(63-fractionBits, lastBit-e)
	kept := uint64(0)
	if drop <= 64 {
		kept = roundOff(m, more, drop)
	}
	// The hidden bit counts up the exponent's field, and so does a carry out of the digits.
	all := uint64(e+drop-lastBit)<<fractionBits + kept
	if all > infiniteBits {
		all = infiniteBits
	}
	if negative {
		all |= 1 << 63
	}
	return math.Float64frombits(all)
}

// roundOff: m without its last bits, 1 to 64 of them, rounded to the nearest and of two as near to the even one.
func roundOff(m uint64, more bool, drop int) uint64 {
	kept := m >> drop
	rest, half := m-kept<<drop, uint64(1)<<(drop-1)
	if rest > half || rest == half && (more || kept&1 == 1) {
		kept++
	}
	return kept
}
