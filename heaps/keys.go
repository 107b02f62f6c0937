package heaps

import (
	"math"

	"compass/api"
)

// keys is what is known of the handles, whatever the kind of the queue.
type keys struct {
	key   []int64 // of each handle that is held
	held  []bool
	count int
	floor int64 // no key below it is taken
}

func newKeys(n int) *keys {
	return &keys{key: make([]int64, n), held: make([]bool, n), floor: math.MinInt64}
}

// Len: how many handles are held.
func (k *keys) Len() int { return k.count }

// Key: a handle's key.
func (k *keys) Key(h int) (int64, api.Errno) {
	if !k.isHandle(h) {
		return 0, api.ErrNode
	}
	if !k.held[h] {
		return 0, api.ErrMissing
	}
	return k.key[h], api.OK
}

func (k *keys) isHandle(h int) bool { return h >= 0 && h < len(k.key) }

func (k *keys) hold(h int, key int64) {
	k.key[h], k.held[h] = key, true
	k.count++
}

func (k *keys) release(h int) {
	k.held[h] = false
	k.count--
}

// before: does handle a come out ahead of handle b? No two are alike, so that all kinds give out the same handle.
func (k *keys) before(a, b int) bool {
	return k.key[a] < k.key[b] || k.key[a] == k.key[b] && a < b
}
