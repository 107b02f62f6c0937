package heaps

// binary is a heap in a list: the handles at the places 2i+1 and 2i+2 come out behind the one at place i.
type binary struct {
	*keys
	order []int
	place []int // of each handle in order
}

func newBinary(k *keys) *binary { return &binary{keys: k, place: make([]int, len(k.key))} }

func (b *binary) add(h int) {
	b.order = append(b.order, h)
	b.rise(h, len(b.order)-1)
}

func (b *binary) lowered(h int) { b.rise(h, b.place[h]) }

func (b *binary) first() int { return b.order[0] }

func (b *binary) removeFirst() {
	last := len(b.order) - 1
	h := b.order[last]
	b.order = b.order[:last]
	if last > 0 {
		b.sink(h, 0)
	}
}

func (b *binary) put(h, at int) { b.order[at], b.place[h] = h, at }

// rise puts h at a place, or further up, as far as those above come out behind it.
func (b *binary) rise(h, at int) {
	for at > 0 {
		up := (at - 1) / 2
		if b.before(b.order[up], h) {
			break
		}
		b.put(b.order[up], at)
		at = up
	}
	b.put(h, at)
}

// sink puts h at a place, or further down, as far as those below come out ahead of it.
func (b *binary) sink(h, at int) {
	for {
		down := 2*at + 1
		if down+1 < len(b.order) && b.before(b.order[down+1], b.order[down]) {
			down++
		}
		if down >= len(b.order) || b.before(h, b.order[down]) {
			break
		}
		b.put(b.order[down], at)
		at = down
	}
	b.put(h, at)
}
