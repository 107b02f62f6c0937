// Package safeint is whole numbers that never wrap unseen: checked sums and products, numbers of 128 bits, and exact fractions.
package safeint

import (
	"math"
	"math/bits"

	"compass/api"
)

// Wide is a number of 128 bits, Hi times 2^64 and Lo.
type Wide struct {
	Hi int64
	Lo uint64
}

// Ratio is a fraction in lowest terms, the lower number above 0.
type Ratio struct {
	Num, Den int64
}

// Add: the sum.
func Add(a, b int64) (int64, api.Errno) {
	sum := a + b
	// Only two numbers of one sign can wrap, and then the sum has the other sign.
	if (a^sum)&(b^sum) < 0 {
		return 0, api.ErrWrap
	}
	return sum, api.OK
}

// Sub: the difference.
func Sub(a, b int64) (int64, api.Errno) {
	difference := a - b
	// Only two numbers of unlike signs can wrap, and then the difference has the sign of b.
	if (a^b)&(a^difference) < 0 {
		return 0, api.ErrWrap
	}
	return difference, api.OK
}

// Mul: the product.
func Mul(a, b int64) (int64, api.Errno) { return Narrow(Product(a, b)) }

// Div: the quotient, rounded down, and what is left.
func Div(a, b int64) (int64, int64, api.Errno) {
	if b == 0 {
		return 0, 0, api.ErrZero
	}
	if a == math.MinInt64 && b == -1 {
		return 0, 0, api.ErrWrap
	}
	quotient, rest := a/b, a%b
	// The language rounds towards 0, which is too high where the signs are unlike.
	if rest != 0 && (rest < 0) != (b < 0) {
		quotient, rest = quotient-1, rest+b
	}
	return quotient, rest, api.OK
}

// Widen: a number as a wide one.
func Widen(a int64) Wide { return Wide{Hi: a >> 63, Lo: uint64(a)} }

// Narrow: a wide number as one of 64 bits.
func Narrow(x Wide) (int64, api.Errno) {
	low := int64(x.Lo)
	if Widen(low) != x {
		return 0, api.ErrWrap
	}
	return low, api.OK
}

// Product: the product of two numbers.
func Product(a, b int64) Wide {
	high, low := bits.Mul64(uint64(a), uint64(b))
	// Read without its sign, a number below 0 is 2^64 too great: the other number came in that often too much.
	if a < 0 {
		high -= uint64(b)
	}
	if b < 0 {
		high -= uint64(a)
	}
	return Wide{Hi: int64(high), Lo: low}
}

// Plus: the sum of two wide numbers.
func Plus(x, y Wide) (Wide, api.Errno) {
	low, carry := bits.Add64(x.Lo, y.Lo, 0)
	high := x.Hi + y.Hi + int64(carry)
	if (x.Hi^high)&(y.Hi^high) < 0 {
		return Wide{}, api.ErrWrap
	}
	return Wide{Hi: high, Lo: low}, api.OK
}

// Compare: -1, 0 or 1.
func Compare(x, y Wide) int {
	if x == y {
		return 0
	}
	if x.Hi < y.Hi || x.Hi == y.Hi && x.Lo < y.Lo {
		return -1
	}
	return 1
}

// Sum: the sum of all.
func Sum(list ...int64) (n int64, e api.Errno) {
	defer func() {
		if given := recover(); given != nil {
			n, e = 0, codeOf(given)
		}
	}()
	// What stands in between may be greater than the answer, so the sum is wide.
	total := Widen(0)
	for _, x := range list {
		total = checked(Plus(total, Widen(x)))
	}
	return checked(Narrow(total)), api.OK
}

// Poly: the value at x of the polynomial with these coefficients, the highest first, step by step.
func Poly(coefficients []int64, x int64) (n int64, e api.Errno) {
	defer func() {
		if given := recover(); given != nil {
			n, e = 0, codeOf(given)
		}
	}()
	value := int64(0)
	for _, c := range coefficients {
		value = checked(Add(checked(Mul(value, x)), c))
	}
	return value, api.OK
}

// Gcd: the greatest number that divides both; 0 of 0 and 0.
func Gcd(a, b int64) uint64 {
	x, y := magnitude(a), magnitude(b)
	for y != 0 {
		x, y = y, x%y
	}
	return x
}

// NewRatio: the fraction n/d.
func NewRatio(n, d int64) (Ratio, api.Errno) {
	if d == 0 {
		return Ratio{}, api.ErrZero
	}
	common := Gcd(n, d)
	num, e := signed(magnitude(n)/common, (n < 0) != (d < 0))
	if e != api.OK {
		return Ratio{}, e
	}
	den, e := signed(magnitude(d)/common, false)
	if e != api.OK {
		return Ratio{}, e
	}
	return Ratio{Num: num, Den: den}, api.OK
}

// Order: -1, 0 or 1, as a/b stands ahead of c/d, is it, or stands behind it.
func Order(a, b, c, d int64) (int, api.Errno) {
	if b == 0 || d == 0 {
		return 0, api.ErrZero
	}
	left, right := Product(a, d), Product(c, b)
	// Both fractions were multiplied by b times d: below 0, that turns their order about.
	if (b < 0) != (d < 0) {
		left, right = right, left
	}
	return Compare(left, right), api.OK
}
