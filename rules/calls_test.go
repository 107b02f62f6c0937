package rules

import (
	"compass/api"
	"compass/assign"
	"compass/bimatch"
	"compass/blossom"
	"compass/bmatch"
	"compass/desk"
	"compass/euler"
	"compass/graph"
	"compass/heaps"
	"compass/links"
	"compass/maxflow"
	"compass/mean"
	"compass/mincost"
	"compass/perfect"
	"compass/postman"
	"compass/proof"
	"compass/safeint"
	"compass/scale"
	"compass/shell"
	"compass/short"
	"compass/span"
	"compass/text"
	"compass/unions"
	"compass/vouch"
	"compass/walk"
)

// Every call that the chapters list stands here with its signature: a wrong one doesn't compile.

// Of safeint.
var (
	_ func(a, b int64) (int64, api.Errno)                        = safeint.Add
	_ func(a, b int64) (int64, api.Errno)                        = safeint.Sub
	_ func(a, b int64) (int64, api.Errno)                        = safeint.Mul
	_ func(a, b int64) (int64, int64, api.Errno)                 = safeint.Div
	_ func(a int64) safeint.Wide                                 = safeint.Widen
	_ func(x safeint.Wide) (int64, api.Errno)                    = safeint.Narrow
	_ func(a, b int64) safeint.Wide                              = safeint.Product
	_ func(x, y safeint.Wide) (safeint.Wide, api.Errno)          = safeint.Plus
	_ func(x, y safeint.Wide) int                                = safeint.Compare
	_ func(list ...int64) (n int64, e api.Errno)                 = safeint.Sum
	_ func(coefficients []int64, x int64) (n int64, e api.Errno) = safeint.Poly
	_ func(a, b int64) uint64                                    = safeint.Gcd
	_ func(n, d int64) (safeint.Ratio, api.Errno)                = safeint.NewRatio
	_ func(a, b, c, d int64) (int, api.Errno)                    = safeint.Order
)

// Of scale.
var (
	_ func(labels []float64, most int64) ([]int64, int, api.Fault) = scale.Admit
	_ func(n int64, e int) float64                                 = scale.Back
	_ func(num, den int64) (float64, api.Errno)                    = scale.Quotient
	_ func(a, b float64) int                                       = scale.Strict
	_ func(labels []float64) (int, api.Errno)                      = scale.Least
)

// Of graph.
var (
	_ func(g api.Graph) api.Fault                     = graph.Check
	_ func(g api.Graph) api.Graph                     = graph.Reverse
	_ func(g api.Graph) (*graph.Net, api.Fault)       = graph.From
	_ func(*graph.Net) *graph.Net                     = (*graph.Net).Fork
	_ func(*graph.Net) int                            = (*graph.Net).Nodes
	_ func(*graph.Net) int                            = (*graph.Net).Edges
	_ func(*graph.Net) api.Graph                      = (*graph.Net).Plain
	_ func(*graph.Net) (int, api.Errno)               = (*graph.Net).AddNode
	_ func(_ *graph.Net, e api.Edge) (int, api.Errno) = (*graph.Net).AddEdge
	_ func(_ *graph.Net, i int, e api.Edge) api.Errno = (*graph.Net).SetEdge
	_ func(_ *graph.Net, i int) api.Errno             = (*graph.Net).CutEdge
	_ func(_ *graph.Net, v int) api.Errno             = (*graph.Net).CutNode
	_ func(_ *graph.Net, i int) (api.Edge, api.Errno) = (*graph.Net).Edge
	_ func(_ *graph.Net, v int) ([]int, api.Errno)    = (*graph.Net).Out
	_ func(_ *graph.Net, v int) ([]int, api.Errno)    = (*graph.Net).In
)

// Of walk.
var (
	_ func(g api.Graph, s int) ([]int, api.Errno)             = walk.Levels
	_ func(g api.Graph) (pre, post []int, code api.Errno)     = walk.Visit
	_ func(g api.Graph) (order, circle []int, code api.Errno) = walk.Order
	_ func(g api.Graph) ([]int, api.Errno)                    = walk.Parts
	_ func(g api.Graph) ([]int, api.Errno)                    = walk.Strong
)

// Of heaps.
var (
	_ func(kind, n int) (*heaps.Queue, api.Errno)      = heaps.New
	_ func(_ *heaps.Queue, h int, key int64) api.Errno = (*heaps.Queue).Push
	_ func(_ *heaps.Queue, h int, key int64) api.Errno = (*heaps.Queue).Lower
	_ func(_ *heaps.Queue, h int) (int64, api.Errno)   = (*heaps.Queue).Key
	_ func(*heaps.Queue) (int, int64, api.Errno)       = (*heaps.Queue).Top
	_ func(*heaps.Queue) (int, int64, api.Errno)       = (*heaps.Queue).Pop
	_ func(*heaps.Queue) int                           = (*heaps.Queue).Len
)

// Of unions.
var (
	_ func(n int) (*unions.Sets, api.Errno)            = unions.New
	_ func(_ *unions.Sets, v int) (int, api.Errno)     = (*unions.Sets).Find
	_ func(_ *unions.Sets, u, v int) (bool, api.Errno) = (*unions.Sets).Join
	_ func(*unions.Sets) api.Errno                     = (*unions.Sets).Undo
	_ func(*unions.Sets) int                           = (*unions.Sets).Joins
	_ func(*unions.Sets) int                           = (*unions.Sets).Count
	_ func(_ *unions.Sets, v int) ([]int, api.Errno)   = (*unions.Sets).Members
)

// Of links.
var (
	_ func(n int) (*links.Forest, api.Errno)                 = links.New
	_ func(_ *links.Forest, v, w int, value int64) api.Errno = (*links.Forest).Link
	_ func(_ *links.Forest, v int) (int64, api.Errno)        = (*links.Forest).Cut
	_ func(_ *links.Forest, v int) (int, api.Errno)          = (*links.Forest).Root
	_ func(_ *links.Forest, v int) (int, api.Errno)          = (*links.Forest).Parent
	_ func(_ *links.Forest, v int) (int64, api.Errno)        = (*links.Forest).Value
	_ func(_ *links.Forest, v int) (int, int64, api.Errno)   = (*links.Forest).Least
	_ func(_ *links.Forest, v int, x int64) api.Errno        = (*links.Forest).Add
)

// Of short.
var (
	_ func(g api.Graph, s, kind int) (short.Tree, api.Errno)  = short.Dijkstra
	_ func(g api.Graph, s int) (short.Tree, []int, api.Errno) = short.Bellman
	_ func(g api.Graph) ([]int64, []int, api.Errno)           = short.Potentials
	_ func(g api.Graph, s, v int) ([]int, int64, api.Errno)   = short.Way
)

// Of euler.
var (
	_ func(g api.Graph, w euler.Walk) (int, api.Errno)              = euler.End
	_ func(g api.Graph, w euler.Walk, directed bool) bool           = euler.Covers
	_ func(g api.Graph, directed bool) (euler.Walk, int, api.Errno) = euler.Tour
)

// Of span.
var (
	_ func(g api.Graph, kind int) ([]int, int64, api.Errno) = span.Forest
	_ func(g api.Graph, u, v int) (int, api.Errno)          = span.Neck
)

// Of proof.
var (
	_ func(g api.Graph, f proof.Flow) (int64, api.Errno)         = proof.Max
	_ func(g api.Graph, p proof.Plan) (int64, api.Errno)         = proof.Cheapest
	_ func(g api.Graph, supply []int64, side []bool) api.Errno   = proof.NoPlan
	_ func(g api.Graph, l proof.Loop) (safeint.Ratio, api.Errno) = proof.Mean
	_ func(g api.Graph, order []int) api.Errno                   = proof.Acyclic
	_ func(g api.Graph, r proof.Round) (int64, api.Errno)        = proof.Postman
	_ func(g api.Graph, side []bool) api.Errno                   = proof.Apart
)

// Of vouch.
var (
	_ func(g api.Graph, m []int) api.Errno                              = vouch.Matching
	_ func(g api.Graph, m, cover []int) (int, api.Errno)                = vouch.Covered
	_ func(g api.Graph, m []int, pot []int64) (int64, api.Errno)        = vouch.Heaviest
	_ func(g api.Graph, m, set []int) (int, api.Errno)                  = vouch.Largest
	_ func(g api.Graph, set []int) api.Errno                            = vouch.NoPerfect
	_ func(g api.Graph, m []int, d vouch.Duals) (int64, api.Errno)      = vouch.Cheapest
	_ func(g api.Graph, b []int) (api.Graph, api.Errno)                 = vouch.Gadget
	_ func(g api.Graph, b, m, set []int) (int, api.Errno)               = vouch.Many
	_ func(g api.Graph, twice []int, w vouch.Metric) (int64, api.Errno) = vouch.Doubled
)

// Of maxflow.
var (
	_ func(g api.Graph, s, t, kind int) (proof.Flow, int64, api.Errno) = maxflow.Solve
)

// Of mincost.
var (
	_ func(g api.Graph, supply []int64, kind int) (plan proof.Plan, cost int64, side []bool, code api.Errno) = mincost.Solve
)

// Of bimatch.
var (
	_ func(g api.Graph, left int) api.Fault                                  = bimatch.Sides
	_ func(g api.Graph, left, kind int) (match, cover []int, code api.Errno) = bimatch.Solve
)

// Of assign.
var (
	_ func(g api.Graph, left, kind int) (match []int, pot []int64, cost int64, code api.Errno) = assign.Solve
)

// Of blossom.
var (
	_ func(g api.Graph) (match, set []int, code api.Errno) = blossom.Solve
)

// Of perfect.
var (
	_ func(g api.Graph) (match []int, d vouch.Duals, set []int, cost int64, code api.Errno) = perfect.Solve
	_ func(dist [][]int64) (mate []int, d vouch.Duals, total int64, code api.Errno)         = perfect.Dense
)

// Of bmatch.
var (
	_ func(g api.Graph, b []int) (match, set []int, code api.Errno) = bmatch.Solve
)

// Of postman.
var (
	_ func(g api.Graph) (r proof.Round, w euler.Walk, off []bool, cost int64, code api.Errno)             = postman.Directed
	_ func(g api.Graph) (twice []int, m vouch.Metric, w euler.Walk, node int, cost int64, code api.Errno) = postman.Undirected
)

// Of mean.
var (
	_ func(g api.Graph, kind int) (l proof.Loop, m safeint.Ratio, order []int, code api.Errno) = mean.Solve
	_ func(m safeint.Ratio, exp int) (float64, api.Errno)                                      = mean.Float
)

// Of text.
var (
	_ func(s string) (float64, api.Errno)       = text.Label
	_ func(s string) (text.Instance, api.Fault) = text.Parse
	_ func(x text.Instance) (string, api.Errno) = text.Print
)

// Of desk.
var (
	_ func() *desk.Desk                                               = desk.New
	_ func(_ *desk.Desk, g api.Graph) (int, api.Fault)                = (*desk.Desk).Make
	_ func(_ *desk.Desk, s string) (int, api.Fault)                   = (*desk.Desk).Load
	_ func(_ *desk.Desk, h int) api.Errno                             = (*desk.Desk).Drop
	_ func(*desk.Desk) []int                                          = (*desk.Desk).Handles
	_ func(_ *desk.Desk, h int) (api.Graph, int, api.Errno)           = (*desk.Desk).Graph
	_ func(_ *desk.Desk, h int, e desk.Edit) (int, api.Errno)         = (*desk.Desk).Edit
	_ func(_ *desk.Desk, h int, t desk.Task) (desk.Answer, api.Errno) = (*desk.Desk).Ask
)

// Of shell.
var (
	_ func() *shell.Console                        = shell.New
	_ func(_ *shell.Console, line string) []string = (*shell.Console).Line
	_ func(s string) string                        = shell.Run
)
