package assign

import (
	"slices"
	"testing"

	"compass/api"
	"compass/trial"
)

func TestP16_1EachKindGoesItsOwnWay(t *testing.T) {
	table := newTable(api.Graph{Nodes: 2}, 1)
	if _, ok := solverOf(Rows, table).(*rows); !ok {
		t.Error("Rows goes another way")
	}
	if _, ok := solverOf(Trees, table).(*trees); !ok {
		t.Error("Trees goes another way")
	}
}

// wantProved: what is said of a table, of the rows that were taken in.
func wantProved(t *testing.T, table *table, taken int) {
	t.Helper()
	for i, row := range table.row {
		matched := table.by[row] == i
		if matched != (table.by[table.column[i]] == i) || matched && (row >= taken || table.slack(i) != 0) {
			t.Fatalf("with %d rows: entry %d is matched at one end, too early, or has slack %d", taken, i, table.slack(i))
		}
		if row < taken && table.slack(i) < 0 {
			t.Fatalf("with %d rows: entry %d has slack %d", taken, i, table.slack(i))
		}
	}
	for v, pot := range table.pot {
		if pot < 0 || pot > api.MaxLabel || table.by[v] == none && pot != 0 {
			t.Fatalf("with %d rows: node %d has potential %d", taken, v, pot)
		}
	}
}

// TestP16_1EachRowKeepsThePotentialsAProof: from the first row that is taken in to the last.
func TestP16_1EachRowKeepsThePotentialsAProof(t *testing.T) {
	row := trial.NewScatter(165)
	for round := range 300 {
		left := row.Between(1, 12)
		g := row.Sided(14, left, row.Below(50), []int{-3, 1, api.MaxLabel - 9}[round%3], []int{9, 3, api.MaxLabel}[round%3])
		for _, kind := range []int{Rows, Trees} {
			held := newTable(g, left)
			by := solverOf(kind, held)
			for taken := range left {
				by.takeIn(taken)
				wantProved(t, held, taken+1)
			}
		}
	}
}

// TestTurnGoesBackToARowThatHadNone: each row on the way gives its column to the one ahead of it.
func TestTurnGoesBackToARowThatHadNone(t *testing.T) {
	g := api.Graph{Nodes: 6, Edges: []api.Edge{
		{From: 0, To: 3, Cost: 5}, {From: 0, To: 4, Cost: 5}, {From: 1, To: 4, Cost: 5}, {From: 1, To: 5, Cost: 5}, {From: 2, To: 3, Cost: 5},
	}}
	held := newTable(g, 3)
	held.by = []int{0, 2, none, 0, 2, none}
	held.via[3], held.via[4], held.via[5] = 4, 1, 3
	held.turn(5)
	if !slices.Equal(held.match(), []int{1, 3, 4}) || held.price() != 15 || held.holder(3) != 2 {
		t.Errorf("%v", held.match())
	}
	if first, again := held.give(1), held.give(1); first != 5 || again != none || held.holder(5) != none {
		t.Errorf("given up: %d, then %d", first, again)
	}
	held.turn(none)
	if !slices.Equal(held.match(), []int{1, 4}) {
		t.Errorf("without a column to begin at: %v", held.match())
	}
}
