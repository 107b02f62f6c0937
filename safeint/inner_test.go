package safeint

import (
	"testing"

	"compass/api"
)

// caught: what run gave up with, or nil.
func caught(run func()) (given any) {
	defer func() { given = recover() }()
	run()
	return nil
}

func TestCheckedGivesUpWithTheCode(t *testing.T) {
	if n := checked(int64(7), api.OK); n != 7 {
		t.Errorf("a right answer was changed: %d", n)
	}
	given := caught(func() { checked(Wide{}, api.ErrWrap) })
	if given == nil || codeOf(given) != api.ErrWrap {
		t.Errorf("gave up with %v", given)
	}
}

func TestOtherPanicsAreTakenForNoError(t *testing.T) {
	if given := caught(func() { codeOf("a fault") }); given != "a fault" {
		t.Errorf("a fault was hidden: %v", given)
	}
	if given := caught(func() { codeOf(api.ErrWrap) }); given != api.ErrWrap {
		t.Errorf("an error that no step gave up with was taken: %v", given)
	}
}
