package rules

import (
	"testing"

	"compass/api"
)

// TestErrors: the numbers and the words of the document's section on errors.
func TestErrors(t *testing.T) {
	for code, want := range map[api.Errno]int{
		api.OK: 0, api.ErrRange: 1, api.ErrMissing: 2, api.ErrSize: 3, api.ErrNone: 4, api.ErrNoWay: 5,
		api.ErrWrap: 10, api.ErrZero: 11,
		api.ErrNaN: 20, api.ErrInf: 21, api.ErrWide: 22, api.ErrScale: 23,
		api.ErrNode: 30, api.ErrLabel: 31, api.ErrEdge: 32,
		api.ErrKind: 50, api.ErrHeld: 51, api.ErrRise: 52,
		api.ErrRoot: 70, api.ErrCycle: 71, api.ErrMinus: 80, api.ErrParity: 90, api.ErrApart: 91,
		api.ErrSame: 120, api.ErrSupply: 130, api.ErrSides: 140, api.ErrOdd: 170,
		api.ErrLine: 210, api.ErrWord: 211, api.ErrFloat: 212,
		api.ErrHandle: 220, api.ErrProof: 221, api.ErrCommand: 230, api.ErrArgs: 231,
	} {
		if int(code) != want {
			t.Errorf("error %d has the number %d", want, int(code))
		}
	}
	var e error = api.ErrWrap
	if e.Error() != "errno 10" || api.Errno(-3).Error() != "errno -3" {
		t.Errorf("an error says %q", e.Error())
	}
}

func TestLimits(t *testing.T) {
	if api.MaxNodes != 1024 || api.MaxEdges != 4096 || api.MaxLabel != 1048576 || api.MaxLine != 65536 || api.MaxGraphs != 64 {
		t.Error("a limit isn't the document's")
	}
}
