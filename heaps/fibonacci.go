package heaps

// degrees: a handle has fewer children than that. A handle with d children and all below it are at least as many as the Fibonacci number d+2 says, and the 17th, 1597, is above MaxNodes.
const degrees = 15

// fibonacci is trees that are left as they come till the first handle leaves; then those whose roots have equally many children are joined.
type fibonacci struct {
	forest
	roots  []int
	least  int    // the root that comes out first
	degree []int  // how many children each has
	lost   []bool // has it lost a child since it got its parent?
}

func newFibonacci(k *keys) *fibonacci {
	n := len(k.key)
	return &fibonacci{forest: newForest(k), least: none, degree: make([]int, n), lost: make([]bool, n)}
}

func (f *fibonacci) add(h int) {
	f.plant(h)
	f.degree[h] = 0
	f.enroll(h)
}

// enroll takes h in as a root.
func (f *fibonacci) enroll(h int) {
	f.lost[h] = false // so that it has lost none when it gets a parent
	f.roots = append(f.roots, h)
	if f.least == none || f.before(h, f.least) {
		f.least = h
	}
}

// lowered makes h a root, and whatever above it has lost a child before: so no handle that isn't a root loses two, and trees stay wide.
func (f *fibonacci) lowered(h int) {
	parent := f.kin[h].parent
	if parent == none {
		if f.before(h, f.least) {
			f.least = h
		}
		return
	}
	if f.before(parent, h) {
		return
	}
	for parent != none {
		f.cut(h)
		f.enroll(h)
		f.degree[parent]--
		h, parent = parent, f.kin[parent].parent
		if parent != none && !f.lost[h] {
			f.lost[h] = true
			return
		}
	}
}

func (f *fibonacci) first() int { return f.least }

// removeFirst keeps, for each count of children, the root found with it till another one is found.
func (f *fibonacci) removeFirst() {
	var found [degrees]int
	for d := range found {
		found[d] = none
	}
	gone := f.least
	for _, h := range f.orphans(gone) {
		f.enroll(h)
	}
	for _, h := range f.roots {
		if h == gone {
			continue
		}
		for found[f.degree[h]] != none {
			other := found[f.degree[h]]
			found[f.degree[h]] = none
			h = f.join(h, other)
			f.degree[h]++
		}
		found[f.degree[h]] = h
	}
	f.roots, f.least = f.roots[:0], none
	for _, h := range found {
		if h != none {
			f.enroll(h)
		}
	}
}
