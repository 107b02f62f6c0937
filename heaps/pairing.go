package heaps

// pairing is one tree. What comes off it is joined again by pairs.
type pairing struct {
	forest
	root int
}

func newPairing(k *keys) *pairing { return &pairing{newForest(k), none} }

func (p *pairing) add(h int) {
	p.plant(h)
	p.root = p.join(p.root, h)
}

func (p *pairing) lowered(h int) {
	if h == p.root {
		return
	}
	p.cut(h)
	p.root = p.join(p.root, h)
}

func (p *pairing) first() int { return p.root }

// removeFirst joins the children two by two, and only then with one another: joined one by one they could all be children again, of one root.
func (p *pairing) removeFirst() {
	trees := append(p.orphans(p.root), none) // the last may have nothing else beside it
	pairs := trees[:len(trees)/2]
	for i := range pairs {
		pairs[i] = p.join(trees[2*i], trees[2*i+1])
	}
	p.root = none
	for i := len(pairs) - 1; i >= 0; i-- {
		p.root = p.join(p.root, pairs[i])
	}
}
