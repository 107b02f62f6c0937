package assign

import (
	"math"
	"slices"

	"compass/api"
)

// none stands where no edge and no node is.
const none = -1

// far is more than any sum of costs.
const far = math.MaxInt64

// table is a matching as it grows. The nodes of the left side are its rows, those of the right side its columns, and the edges its entries, but for those that cost 0 or less: they make nothing heavier.
//
// No potential is below 0, an entry's row and column have together no less than it costs, and just that, if it is in the matching; a column that isn't matched has 0, and so has a row that was taken in and isn't matched. So the potentials prove the matching of the rows that were taken in heaviest.
type table struct {
	row, column []int   // of each entry
	cost        []int64 // of each entry
	entries     [][]int // of each row
	pot         []int64 // of each node
	by          []int   // the entry that each node is matched by; none, if it isn't
	via         []int   // the entry by which each column was come to last
}

func newTable(g api.Graph, left int) *table {
	t := &table{entries: make([][]int, left), pot: make([]int64, g.Nodes)}
	t.by, t.via = slices.Repeat([]int{none}, g.Nodes), slices.Repeat([]int{none}, g.Nodes)
	for i, e := range g.Edges {
		row, column := min(e.From, e.To), max(e.From, e.To)
		t.row, t.column, t.cost = append(t.row, row), append(t.column, column), append(t.cost, e.Cost)
		if e.Cost > 0 {
			t.entries[row] = append(t.entries[row], i)
		}
	}
	return t
}

// begin gives a row that isn't taken in yet the least potential that its entries allow.
func (t *table) begin(row int) {
	for _, i := range t.entries[row] {
		t.pot[row] = max(t.pot[row], t.cost[i]-t.pot[t.column[i]])
	}
}

// slack: how much more the potentials of an entry's row and column have than it costs.
func (t *table) slack(i int) int64 { return t.pot[t.row[i]] + t.pot[t.column[i]] - t.cost[i] }

// holder: the row that a column is matched with; none, if it isn't.
func (t *table) holder(column int) int {
	if t.by[column] == none {
		return none
	}
	return t.row[t.by[column]]
}

// turn matches a column with the row from which it was come to, the column which that row had with the one from which that was come to, and so on back to a row that had none.
func (t *table) turn(column int) {
	for column != none {
		i := t.via[column]
		column = t.give(t.row[i])
		t.by[t.row[i]], t.by[t.column[i]] = i, i
	}
}

// give: a row gives up its column, which is answered; none, if it had none.
func (t *table) give(row int) int {
	i := t.by[row]
	if i == none {
		return none
	}
	t.by[row], t.by[t.column[i]] = none, none
	return t.column[i]
}

func (t *table) match() []int {
	var list []int
	for i, row := range t.row {
		if t.by[row] == i {
			list = append(list, i)
		}
	}
	return list
}

func (t *table) potentials() []int64 { return t.pot }

// price: what the matching costs.
func (t *table) price() int64 {
	var sum int64
	for _, i := range t.match() {
		sum += t.cost[i]
	}
	return sum
}
