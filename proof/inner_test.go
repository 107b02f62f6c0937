package proof

import (
	"testing"

	"compass/api"
)

// caught: what run gave up with, or nil.
func caught(run func()) (given any) {
	defer func() { given = recover() }()
	run()
	return nil
}

func TestALookGivesUpWithItsCode(t *testing.T) {
	if code := looked(api.Graph{}, func() {}); code != api.OK {
		t.Errorf("a look that comes to its end: %v", code)
	}
	for _, want := range []api.Errno{api.ErrProof, api.ErrSame} {
		ended := false
		code := looked(api.Graph{}, func() {
			demand(true, api.ErrNode)
			demand(false, want)
			ended = true
		})
		if code != want || ended {
			t.Errorf("a look that gave up with %v: %v", want, code)
		}
	}
	if code := looked(api.Graph{Nodes: -1}, func() { t.Error("a wrong graph is looked at") }); code != api.ErrSize {
		t.Errorf("a wrong graph: %v", code)
	}
}

func TestOtherPanicsAreTakenForNoError(t *testing.T) {
	for _, fault := range []any{"a fault", api.ErrProof} {
		if given := caught(func() { looked(api.Graph{}, func() { panic(fault) }) }); given != fault {
			t.Errorf("a fault was hidden: %v", given)
		}
	}
}
