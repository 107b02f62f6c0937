package safeint

import (
	"math"

	"compass/api"
)

// refusal is what a checked step gives up with; no other panic has this type, so none is taken for an error of the caller's.
type refusal struct {
	code api.Errno
}

// checked: the answer of a step, which gives up if the step was refused.
func checked[T any](answer T, e api.Errno) T {
	if e != api.OK {
		panic(refusal{code: e})
	}
	return answer
}

// codeOf: the error of a step that gave up; whatever else was caught is a fault of the program and goes on.
func codeOf(given any) api.Errno {
	r, ok := given.(refusal)
	if !ok {
		panic(given)
	}
	return r.code
}

// magnitude is without a sign, as that of -2^63 doesn't fit with one.
func magnitude(a int64) uint64 {
	if a < 0 {
		return -uint64(a)
	}
	return uint64(a)
}

// signed: the number of that magnitude, below 0 if negative.
func signed(m uint64, negative bool) (int64, api.Errno) {
	if negative && m <= 1<<63 {
		return -int64(m), api.OK
	}
	if m > math.MaxInt64 {
		return 0, api.ErrWrap
	}
	return int64(m), api.OK
}
