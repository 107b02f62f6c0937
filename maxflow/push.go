package maxflow

// push sends from the source all that its arcs take, and from each node that has too much what goes a level down, lifting the node where nothing does. What can't come to the sink so goes back to the source, as the nodes are lifted above it.
type push struct {
	*net
	over  []int64 // how much more has come to each node than has gone on
	ready [][]int // by levels: the nodes that have too much
	top   int     // no level above it has such a node
}

func newPush(n *net) *push {
	return &push{net: n, over: make([]int64, len(n.out)), ready: make([][]int, 2*n.beyond())}
}

// fill takes the highest of the nodes that have too much: so what comes down to a node gathers there ahead of being sent on. No node has too much that can't send it back the way that it came, which is why none is lifted to twice the number of nodes.
func (p *push) fill() {
	p.settle()
	p.level[p.source] = p.beyond()
	for _, a := range p.out[p.source] {
		p.hand(a, p.left[a])
	}
	for p.top >= 0 {
		last := len(p.ready[p.top]) - 1
		if last < 0 {
			p.top--
			continue
		}
		v := p.ready[p.top][last]
		p.ready[p.top] = p.ready[p.top][:last]
		p.rid(v)
	}
}

// hand sends to the node at the end of an arc, which may have too much by that.
func (p *push) hand(a int, x int64) {
	v := p.end[a]
	if x > 0 && p.over[v] == 0 && v != p.source && v != p.sink {
		p.ready[p.level[v]] = append(p.ready[p.level[v]], v)
		p.top = max(p.top, p.level[v])
	}
	p.send(a, x)
	p.over[v] += x
}

// rid sends all on that v has too much.
func (p *push) rid(v int) {
	for p.over[v] > 0 {
		a := p.lead(v)
		if a == none {
			p.lift(v)
			continue
		}
		x := min(p.over[v], p.left[a])
		p.over[v] -= x
		p.hand(a, x)
	}
}

// lift: v is one level above the lowest node to which it can send.
func (p *push) lift(v int) {
	lowest := 2 * p.beyond()
	for _, a := range p.out[v] {
		if p.left[a] > 0 {
			lowest = min(lowest, p.level[p.end[a]])
		}
	}
	p.level[v], p.next[v] = lowest+1, 0
}
