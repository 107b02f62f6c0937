package assign

// rows changes the potentials step by step, each time by no more than lets one more column be come to, or one row do without any. What comes next it finds by looking through all columns and through all rows that were come to.
type rows struct {
	*table
	tree   []int   // the rows that were come to
	come   []bool  // which columns were
	slacks []int64 // of each other column the least slack of its entries in these rows; far, if it has none there
}

func newRows(t *table) *rows {
	return &rows{table: t, come: make([]bool, len(t.pot)), slacks: make([]int64, len(t.pot))}
}

func (r *rows) takeIn(row int) {
	r.begin(row)
	r.forget()
search:
	for {
		r.lookFrom(row)
		poor := r.poorest()
		column, gap := r.nearest()
		rest := r.pot[poor]
		r.shift(min(rest, gap))
		switch {
		case rest <= gap:
			r.turn(r.give(poor))
			break search
		case r.by[column] == none:
			r.turn(column)
			break search
		default:
			r.come[column] = true
			row = r.holder(column)
		}
	}
}

func (r *rows) forget() {
	r.tree = r.tree[:0]
	clear(r.come)
	for column := range r.slacks {
		r.slacks[column] = far
	}
}

// lookFrom: this row is come to.
func (r *rows) lookFrom(row int) {
	r.tree = append(r.tree, row)
	for _, i := range r.entries[row] {
		if column, slack := r.column[i], r.slack(i); slack < r.slacks[column] {
			r.slacks[column], r.via[column] = slack, i
		}
	}
}

// poorest: of the rows that were come to, one with the least potential.
func (r *rows) poorest() int {
	poor := r.tree[0]
	for _, row := range r.tree {
		if r.pot[row] < r.pot[poor] {
			poor = row
		}
	}
	return poor
}

// nearest: of the columns that weren't come to, one with the least slack, and that; none and far, if no row that was come to has an entry in any.
func (r *rows) nearest() (int, int64) {
	near, gap := none, int64(far)
	for column, slack := range r.slacks {
		if !r.come[column] && slack < gap {
			near, gap = column, slack
		}
	}
	return near, gap
}

// shift takes so much from the rows that were come to, and gives it to the columns that were: so what they hold keeps its slack of 0.
func (r *rows) shift(by int64) {
	for _, row := range r.tree {
		r.pot[row] -= by
	}
	for column, slack := range r.slacks {
		switch {
		case r.come[column]:
			r.pot[column] += by
		case slack < far:
			r.slacks[column] -= by
		}
	}
}
