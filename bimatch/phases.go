package bimatch

// phases looks for shortest ways from free nodes of the left side to free ones of the right side, and changes the pairs along as many of them at once as have no node in common. Then the shortest ways that are left are longer.
type phases struct {
	*pairs
	level []int // of each node of the left side, as the phase begins
	last  int   // the level from which the shortest ways come to a free node
	next  []int // of each node of the left side, how many of its edges this phase has gone along
}

func (p *phases) fill() {
	for p.settle() {
		p.change()
	}
}

// settle finds the levels anew: is there a way?
func (p *phases) settle() bool {
	p.level, p.last = p.levels()
	p.next = make([]int, len(p.at))
	return p.last != none
}

// change goes along the shortest ways of a phase.
func (p *phases) change() {
	for v, level := range p.level {
		if level == 0 {
			p.place(v)
		}
	}
}

// place matches v, if a shortest way leads from it on: does one? Each edge is gone along once a phase.
func (p *phases) place(v int) bool {
	for p.next[v] < len(p.at[v]) {
		i := p.at[v][p.next[v]]
		p.next[v]++
		if p.open(v, p.far[i]) {
			p.take(i)
			return true
		}
	}
	return false
}

// open: can v have that node of the right side, as it is free, or as whom it is matched with could be matched anew?
func (p *phases) open(v, far int) bool {
	if p.level[v] == p.last {
		return p.free(far)
	}
	u := p.mate(far)
	return p.level[u] == p.level[v]+1 && p.place(u)
}
