package unions

// tree is a node and all below it; what hangs together is one tree, and its root speaks for the set.
type tree struct {
	up    int // the node above; a root has itself there
	size  int // how many nodes it has, with the root
	least int // the least of them
}

// join is what a join changed: the root that got one above it, and that one as it was.
type join struct {
	below, root int
	before      tree
}

func (s *Sets) isNode(v int) bool { return v >= 0 && v < len(s.trees) }

// root leaves the way as it is: were it made shorter, a join couldn't be taken back by what it changed alone. It is short already, as the smaller tree is hung below the greater.
func (s *Sets) root(v int) int {
	for s.trees[v].up != v {
		v = s.trees[v].up
	}
	return v
}

func (s *Sets) hang(below, root int) {
	s.joins = append(s.joins, join{below, root, s.trees[root]})
	s.trees[root].size += s.trees[below].size
	s.trees[root].least = min(s.trees[root].least, s.trees[below].least)
	s.trees[below].up = root
}

func (s *Sets) unhang(j join) {
	s.trees[j.below].up = j.below
	s.trees[j.root] = j.before
}
