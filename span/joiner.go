package span

import (
	"cmp"
	"slices"

	"compass/api"
	"compass/unions"
)

// joiner takes edges of a right graph into a forest; its sets are what hangs together by them.
type joiner struct {
	*unions.Sets
	g      api.Graph
	order  []int // the edges' numbers, as the edges stand in order
	forest []int // the edges that were taken
}

func newJoiner(g api.Graph) *joiner {
	sets, _ := unions.New(g.Nodes) // a right graph has no more nodes than sets may have
	return &joiner{Sets: sets, g: g, order: inOrder(g.Edges)}
}

func isNode(v int, g api.Graph) bool { return v >= 0 && v < g.Nodes }

// inOrder: the numbers of the edges by their costs, of equal ones by their numbers.
func inOrder(edges []api.Edge) []int {
	order := make([]int, len(edges))
	for i := range order {
		order[i] = i
	}
	slices.SortFunc(order, func(a, b int) int {
		return cmp.Or(cmp.Compare(edges[a].Cost, edges[b].Cost), cmp.Compare(a, b))
	})
	return order
}

// take: was edge i new to the forest, as its ends didn't hang together?
func (j *joiner) take(i int) bool {
	fresh, _ := j.Join(j.g.Edges[i].From, j.g.Edges[i].To)
	if fresh {
		j.forest = append(j.forest, i)
	}
	return fresh
}

func (j *joiner) together(u, v int) bool {
	first, _ := j.Find(u)
	second, _ := j.Find(v)
	return first == second
}

func (j *joiner) cost() int64 {
	var sum int64
	for _, i := range j.forest {
		sum += j.g.Edges[i].Cost
	}
	return sum
}
