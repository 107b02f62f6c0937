package heaps

import "math/bits"

// radix keeps handles in buckets, by the highest bit in which their keys differ from the floor (bucket 0: in none). Keys in an earlier bucket are less.
type radix struct {
	*keys
	buckets [64][]int
}

func newRadix(k *keys) *radix {
	k.floor = 0
	return &radix{keys: k}
}

// bucketOf: neither the key nor the floor is below 0, so that the highest bit is never the sign.
func (r *radix) bucketOf(h int) int { return bits.Len64(uint64(r.key[h] ^ r.floor)) }

func (r *radix) add(h int) {
	b := r.bucketOf(h)
	r.buckets[b] = append(r.buckets[b], h)
}

// lowered looks for h from its new bucket on: which key it had isn't known any more, but that it was no less.
func (r *radix) lowered(h int) {
search:
	for b := r.bucketOf(h); b < len(r.buckets); b++ {
		for i, other := range r.buckets[b] {
			if other == h {
				r.leave(b, i)
				break search
			}
		}
	}
	r.add(h)
}

// leave takes what stands at place i out of bucket b, in which the order doesn't matter.
func (r *radix) leave(b, i int) {
	bucket := r.buckets[b]
	last := len(bucket) - 1
	bucket[i] = bucket[last]
	r.buckets[b] = bucket[:last]
}

func (r *radix) first() int {
	b, i := r.find()
	return r.buckets[b][i]
}

// find: the bucket and the place in it of the handle that comes out next.
func (r *radix) find() (b, i int) {
	for len(r.buckets[b]) == 0 {
		b++
	}
	for j, h := range r.buckets[b] {
		if r.before(h, r.buckets[b][i]) {
			i = j
		}
	}
	return b, i
}

// removeFirst raises the floor: what was in the same bucket comes into earlier ones, what is in later ones stays, as the bits that it was told by are the same.
func (r *radix) removeFirst() {
	b, i := r.find()
	r.floor = r.key[r.buckets[b][i]]
	r.leave(b, i)
	rest := r.buckets[b]
	if b == 0 {
		return // all keys there are the floor itself
	}
	r.buckets[b] = nil
	for _, h := range rest {
		r.add(h)
	}
}
