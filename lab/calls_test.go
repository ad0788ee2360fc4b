package lab_test

import (
	"testing"

	"slipstream/api"
	"slipstream/cell"
	"slipstream/field"
	"slipstream/gauge"
	"slipstream/grid"
	"slipstream/lab"
	"slipstream/level"
	"slipstream/node"
	"slipstream/phase"
	"slipstream/share"
	"slipstream/wall"
)

// The calls of package cell.
var (
	_ func(c api.Cell) bool                                    = cell.Valid
	_ func(r api.Rule) bool                                    = cell.ValidRule
	_ func(l []api.Rule) bool                                  = cell.ValidRules
	_ func(c api.Cell) (int, api.Errno)                        = cell.Mass
	_ func(c api.Cell) (east, north int, e api.Errno)          = cell.Momentum
	_ func(c api.Cell) (h, v int, e api.Errno)                 = cell.Pairs
	_ func(c api.Cell, r api.Rule) (api.Cell, api.Errno)       = cell.Collide
	_ func(c api.Cell, r api.Rule) (api.Cell, api.Errno)       = cell.Undo
	_ func(r api.Rule) (api.Rule, api.Errno)                   = cell.Inverse
	_ func(c api.Cell, r api.Rule) (int, api.Errno)            = cell.Order
	_ func(l []api.Rule, step int) (api.Rule, api.Errno)       = cell.At
	_ func(c api.Cell) (api.Cell, api.Errno)                   = cell.Norm
	_ func(c api.Cell) (place, size int, e api.Errno)          = cell.Place
	_ func(mass, east, north, place int) (api.Cell, api.Errno) = cell.Of
	_ func(a, b api.Cell) bool                                 = cell.Same
	_ func(c api.Cell, quarters int) (api.Cell, api.Errno)     = cell.Turned
	_ func(c api.Cell) (api.Cell, api.Errno)                   = cell.Mirrored
	_ func(a, b api.Cell) (api.Cell, api.Errno)                = cell.Added
	_ func(c api.Cell) ([4]api.Cell, api.Errno)                = cell.Split
	_ func(l []api.Rule) string                                = cell.Format
	_ func(s string) ([]api.Rule, api.Errno)                   = cell.Parse
)

// The calls of package grid.
var (
	_ func(g api.Grid) bool                                           = grid.Valid
	_ func(wide, high int) (api.Grid, api.Errno)                      = grid.Empty
	_ func(g api.Grid) (int, api.Errno)                               = grid.Mass
	_ func(g api.Grid) (east, north int, e api.Errno)                 = grid.Momentum
	_ func(g api.Grid) (api.Grid, api.Errno)                          = grid.Stream
	_ func(g api.Grid) (api.Grid, api.Errno)                          = grid.Unstream
	_ func(g api.Grid, l []api.Rule, t int) (api.Grid, api.Errno)     = grid.Step
	_ func(g api.Grid, l []api.Rule, t int) (api.Grid, api.Errno)     = grid.Back
	_ func(g api.Grid, l []api.Rule, t, n int) (api.Grid, api.Errno)  = grid.Run
	_ func(g api.Grid, l []api.Rule, t, n int) (api.Grid, api.Errno)  = grid.Undo
	_ func(g api.Grid) (api.Grid, api.Errno)                          = grid.Reversed
	_ func(g api.Grid, r api.Rule, most int) (int, api.Errno)         = grid.Period
	_ func(g api.Grid, p api.Point, dir, n int) (api.Grid, api.Errno) = grid.Put
	_ func(g api.Grid, p api.Point, dir, n int) (api.Grid, api.Errno) = grid.Take
	_ func(g api.Grid, x, y int) (api.Grid, api.Errno)                = grid.Shifted
	_ func(g api.Grid) (api.Grid, api.Errno)                          = grid.Turned
	_ func(g api.Grid) (api.Grid, api.Errno)                          = grid.Mirrored
	_ func(a, b api.Grid) (api.Grid, api.Errno)                       = grid.Added
	_ func(a, b api.Grid) ([]int, api.Errno)                          = grid.Differ
	_ func(g api.Grid) (uint64, api.Errno)                            = grid.Sum
	_ func(g api.Grid) string                                         = grid.Format
	_ func(s string) (g api.Grid, line int, e api.Errno)              = grid.Parse
)

// The calls of package wall.
var (
	_ func(g api.Grid, w api.Wall) bool                                                         = wall.Valid
	_ func(g api.Grid) (api.Wall, api.Errno)                                                    = wall.Open
	_ func(c api.Cell, kind int) (api.Cell, api.Errno)                                          = wall.Sent
	_ func(g api.Grid, w api.Wall, l []api.Rule, t int) (api.Grid, api.Errno)                   = wall.Step
	_ func(g api.Grid, w api.Wall, l []api.Rule, t int) (api.Grid, api.Errno)                   = wall.Back
	_ func(g api.Grid, w api.Wall, l []api.Rule, t, n int) (api.Grid, api.Errno)                = wall.Run
	_ func(g api.Grid, w api.Wall, l []api.Rule, t, n int) (api.Grid, api.Errno)                = wall.Undo
	_ func(g api.Grid, w api.Wall, body int) (api.Push, api.Errno)                              = wall.Impulse
	_ func(g api.Grid, w api.Wall, l []api.Rule, t, n, body int) (api.Push, api.Errno)          = wall.Drag
	_ func(g api.Grid, w api.Wall) ([]int, api.Errno)                                           = wall.Bodies
	_ func(g api.Grid, w api.Wall, body int) ([]int, api.Errno)                                 = wall.Cells
	_ func(g api.Grid, w api.Wall, p api.Point, q, body int) (api.Wall, api.Errno)              = wall.Disc
	_ func(g api.Grid, w api.Wall, p api.Point, q, body int) (api.Wall, api.Errno)              = wall.Smooth
	_ func(g api.Grid, w api.Wall, p, q api.Point, kind, body int) (api.Wall, api.Errno)        = wall.Box
	_ func(g api.Grid, w api.Wall, p api.Point, n int, up bool, body int) (api.Wall, api.Errno) = wall.Slope
	_ func(g api.Grid, w api.Wall, body int) (api.Wall, api.Errno)                              = wall.Removed
	_ func(g api.Grid, w api.Wall) (api.Wall, api.Errno)                                        = wall.Mirrored
	_ func(g api.Grid, w api.Wall, p api.Point) ([]int, api.Errno)                              = wall.Closed
	_ func(g api.Grid, w api.Wall) string                                                       = wall.Format
	_ func(g api.Grid, s string) (w api.Wall, line int, e api.Errno)                            = wall.Parse
)

// The calls of package phase.
var (
	_ func(x api.Mix) bool                                                      = phase.Valid
	_ func(a, b api.Grid) (api.Mix, api.Errno)                                  = phase.Of
	_ func(x api.Mix) (a, b api.Grid, e api.Errno)                              = phase.Parts
	_ func(x api.Mix) (api.Grid, api.Errno)                                     = phase.Both
	_ func(x api.Mix) (a, b int, e api.Errno)                                   = phase.Masses
	_ func(x api.Mix) (east, north int, e api.Errno)                            = phase.Momentum
	_ func(a, b api.Cell, r api.Rule, line int) (api.Cell, api.Cell, api.Errno) = phase.Exchange
	_ func(a, b api.Cell, r api.Rule, line int) (api.Cell, api.Cell, api.Errno) = phase.Unexchange
	_ func(x api.Mix, l, m []api.Rule, t int) (api.Mix, api.Errno)              = phase.Step
	_ func(x api.Mix, l, m []api.Rule, t int) (api.Mix, api.Errno)              = phase.Back
	_ func(x api.Mix, l, m []api.Rule, t, n int) (api.Mix, api.Errno)           = phase.Run
	_ func(x api.Mix, l, m []api.Rule, t, n int) (api.Mix, api.Errno)           = phase.Undo
	_ func(x api.Mix) (api.Mix, api.Errno)                                      = phase.Swapped
	_ func(x api.Mix, p api.Point) (int, api.Errno)                             = phase.Kind
	_ func(x api.Mix) (int, api.Errno)                                          = phase.Interface
	_ func(x api.Mix, kind int) ([]int, api.Errno)                              = phase.Drops
	_ func(a, b api.Mix) bool                                                   = phase.Same
	_ func(x api.Mix) string                                                    = phase.Format
	_ func(s string) (x api.Mix, line int, e api.Errno)                         = phase.Parse
)

// The calls of package node.
var (
	_ func(g api.Grid, owner []int) bool                                                                         = node.ValidMap
	_ func(g api.Grid, owner []int) ([]api.Site, api.Errno)                                                      = node.Split
	_ func(g api.Grid, owner []int, l []api.Site) bool                                                           = node.Valid
	_ func(g api.Grid, owner []int, node, step int) ([]api.Note, api.Errno)                                      = node.Due
	_ func(g api.Grid, owner []int, post []api.Note) bool                                                        = node.ValidPost
	_ func(g api.Grid, owner []int, s api.Site, post []api.Note) (bool, api.Errno)                               = node.Ready
	_ func(g api.Grid, owner []int, l []api.Rule, s api.Site, post []api.Note) (api.Site, []api.Note, api.Errno) = node.Act
	_ func(g api.Grid, owner []int, l []api.Rule, n int, order []int) ([]api.Site, []api.Note, int, api.Errno)   = node.Play
	_ func(g api.Grid, owner []int, l []api.Site, post []api.Note, n int) ([]int, api.Errno)                     = node.Stuck
	_ func(g api.Grid, owner []int, l []api.Site, post []api.Note) ([]api.Note, api.Errno)                       = node.Lost
	_ func(g api.Grid, owner []int, l []api.Site, post []api.Note) (api.Grid, api.Errno)                         = node.Merge
	_ func(g api.Grid, owner []int, l []api.Rule, n int) (api.Grid, api.Errno)                                   = node.Run
	_ func(g api.Grid, owner []int) (int, api.Errno)                                                             = node.Traffic
	_ func(g api.Grid, owner []int, node int) ([]int, api.Errno)                                                 = node.Neighbours
	_ func(g api.Grid, cuts []int) ([]int, api.Errno)                                                            = node.Columns
	_ func(l []api.Site, post []api.Note) int                                                                    = node.Mass
	_ func(post []api.Note) []api.Note                                                                           = node.Sorted
	_ func(post []api.Note) string                                                                               = node.Format
	_ func(s string) (post []api.Note, line int, e api.Errno)                                                    = node.Parse
)

// The calls of package level.
var (
	_ func(g api.Grid) (api.Grid, api.Errno)                           = level.Refine
	_ func(g api.Grid) (api.Grid, api.Errno)                           = level.Coarsen
	_ func(g api.Grid) (bool, api.Errno)                               = level.Even
	_ func(g api.Grid) ([]int, api.Errno)                              = level.Blocks
	_ func(p api.Patch) bool                                           = level.Valid
	_ func(g api.Grid, a, b api.Point) (api.Patch, api.Errno)          = level.Opened
	_ func(p api.Patch) (api.Grid, api.Errno)                          = level.Shut
	_ func(p api.Patch) (int, api.Errno)                               = level.Mass
	_ func(p api.Patch) (east, north int, e api.Errno)                 = level.Momentum
	_ func(p api.Patch, l []api.Rule, t int) (api.Patch, api.Errno)    = level.Step
	_ func(p api.Patch, l []api.Rule, t, n int) (api.Patch, api.Errno) = level.Run
	_ func(p api.Patch, l []api.Rule, t int) (int, api.Errno)          = level.Enter
	_ func(p api.Patch, l []api.Rule, t int) (int, api.Errno)          = level.Leave
	_ func(p api.Patch, c api.Point) (bool, api.Errno)                 = level.Inside
	_ func(p api.Patch, c api.Point) ([4]int, api.Errno)               = level.Fine
	_ func(p api.Patch, c api.Point) (api.Point, api.Errno)            = level.Coarse
	_ func(a, b api.Patch) bool                                        = level.Same
	_ func(p api.Patch) string                                         = level.Format
	_ func(s string) (p api.Patch, line int, e api.Errno)              = level.Parse
)

// The calls of package gauge.
var (
	_ func(g api.Grid, a, b api.Point, axis int) (int, api.Errno)                                               = gauge.Momentum
	_ func(g api.Grid, w api.Wall, l []api.Rule, t int, a, b api.Point, axis int) (in, out int, e api.Errno)    = gauge.Flux
	_ func(g api.Grid, w api.Wall, l []api.Rule, from, to int, a, b api.Point, axis int) (api.Gauge, api.Errno) = gauge.Told
	_ func(s api.Span) bool                                                                                     = gauge.ValidSpan
	_ func(l []api.Gauge) bool                                                                                  = gauge.Valid
	_ func(g api.Gauge) (api.Span, api.Errno)                                                                   = gauge.Tells
	_ func(g api.Gauge, by int) (api.Gauge, api.Errno)                                                          = gauge.Blurred
	_ func(g api.Gauge, n int) (bool, api.Errno)                                                                = gauge.Has
	_ func(l []api.Gauge, a, b int) (int, []int, api.Errno)                                                     = gauge.Least
	_ func(l []api.Gauge, a, b int) (int, []int, api.Errno)                                                     = gauge.Most
	_ func(l []api.Gauge, a, b int) (api.Span, api.Errno)                                                       = gauge.Bounds
	_ func(l []api.Gauge, a, b int) ([]int, []int, api.Errno)                                                   = gauge.Proof
	_ func(l []api.Gauge, a, b int, low, high []int) bool                                                       = gauge.Proves
	_ func(l []api.Gauge) (a, b int, e api.Errno)                                                               = gauge.Wrong
	_ func(l []api.Gauge, a, b int) (lo, hi api.Ratio, e api.Errno)                                             = gauge.Mean
	_ func(f, g api.Gauge) (api.Gauge, api.Errno)                                                               = gauge.Joined
	_ func(l []api.Gauge) string                                                                                = gauge.Format
	_ func(s string) (l []api.Gauge, line int, e api.Errno)                                                     = gauge.Parse
)

// The calls of package field.
var (
	_ func(g api.Grid, a, b api.Point) (int, api.Errno)                     = field.Cells
	_ func(g api.Grid, a, b api.Point) (api.Ratio, api.Errno)               = field.Density
	_ func(g api.Grid, a, b api.Point) (east, north api.Ratio, e api.Errno) = field.Velocity
	_ func(g api.Grid, wide, high int) (api.Point, api.Errno)               = field.Densest
	_ func(g api.Grid, axis int) ([]int, api.Errno)                         = field.Profile
	_ func(g api.Grid, a, b api.Point) (int, api.Errno)                     = field.Circulation
	_ func(g api.Grid, side int) (api.Point, int, api.Errno)                = field.Vortex
	_ func(g api.Grid, p api.Point) (int, api.Errno)                        = field.Main
	_ func(g api.Grid, p api.Point) ([]api.Point, bool, api.Errno)          = field.Path
	_ func(g api.Grid) ([]int, api.Errno)                                   = field.Sinks
	_ func(g api.Grid) ([][]int, api.Errno)                                 = field.Rings
	_ func(g api.Grid, axis, at int) (forth, back int, e api.Errno)         = field.Crossing
	_ func(g api.Grid) (even, odd int, e api.Errno)                         = field.Parity
	_ func(g api.Grid) ([]int, api.Errno)                                   = field.Rows
	_ func(g api.Grid) (api.Ratio, api.Errno)                               = field.Spread
	_ func(g api.Grid, wide, high int) ([]int, api.Errno)                   = field.Table
	_ func(l []api.Ratio, cells []int) (api.Ratio, api.Errno)               = field.Weighted
	_ func(g api.Grid) string                                               = field.Picture
)

// The calls of package share.
var (
	_ func(loads []int) bool                                   = share.Valid
	_ func(g api.Grid) ([]int, api.Errno)                      = share.Loads
	_ func(loads, cuts []int) ([]int, api.Errno)               = share.Weights
	_ func(loads, cuts []int) (int, api.Errno)                 = share.Peak
	_ func(loads []int, k int) (int, api.Errno)                = share.Least
	_ func(loads []int, k int) ([]int, api.Errno)              = share.Best
	_ func(loads []int, k, most int) (bool, api.Errno)         = share.Fits
	_ func(loads []int, most int) ([]int, api.Errno)           = share.Greedy
	_ func(loads []int, k int) ([][2]int, api.Errno)           = share.Proof
	_ func(loads []int, k, b int, p [][2]int) bool             = share.Proves
	_ func(loads []int, most int) (int, api.Errno)             = share.Nodes
	_ func(loads, cuts []int, node, by int) ([]int, api.Errno) = share.Moved
	_ func(loads, cuts []int) ([]int, api.Errno)               = share.Spare
	_ func(loads []int, k int) ([]int, api.Errno)              = share.Even
	_ func(loads, cuts []int) ([]int, int, api.Errno)          = share.Rebalanced
	_ func(g api.Grid, cuts []int) ([]int, api.Errno)          = share.Map
	_ func(g api.Grid, cuts []int, note int) (int, api.Errno)  = share.Cost
	_ func(cuts []int) string                                  = share.Format
	_ func(s string) ([]int, api.Errno)                        = share.Parse
)

// The calls of package lab.
var (
	_ func(x lab.Setup) bool                                     = lab.ValidSetup
	_ func(x lab.Setup) (*lab.Lab, api.Errno)                    = lab.New
	_ func(l *lab.Lab, p api.Point, dir, n int) api.Errno        = (*lab.Lab).Put
	_ func(l *lab.Lab, p api.Point, dir, n int) api.Errno        = (*lab.Lab).Take
	_ func(l *lab.Lab, p api.Point, q, body int) api.Errno       = (*lab.Lab).Disc
	_ func(l *lab.Lab, p api.Point, q, body int) api.Errno       = (*lab.Lab).Smooth
	_ func(l *lab.Lab, p, q api.Point, kind, body int) api.Errno = (*lab.Lab).Box
	_ func(l *lab.Lab, body int) api.Errno                       = (*lab.Lab).Clear
	_ func(l *lab.Lab, n int) api.Errno                          = (*lab.Lab).Step
	_ func(l *lab.Lab, n int) api.Errno                          = (*lab.Lab).Back
	_ func(l *lab.Lab, name string) api.Errno                    = (*lab.Lab).Mark
	_ func(l *lab.Lab, name string) api.Errno                    = (*lab.Lab).Go
	_ func(l *lab.Lab) int                                       = (*lab.Lab).Now
	_ func(l *lab.Lab) int                                       = (*lab.Lab).Undoable
	_ func(l *lab.Lab) api.Grid                                  = (*lab.Lab).Grid
	_ func(l *lab.Lab) api.Wall                                  = (*lab.Lab).Wall
	_ func(l *lab.Lab) (mass, east, north int)                   = (*lab.Lab).Account
	_ func(l *lab.Lab, body int) api.Push                        = (*lab.Lab).Given
	_ func(l *lab.Lab) []string                                  = (*lab.Lab).Marks
	_ func(l *lab.Lab) []api.Entry                               = (*lab.Lab).Lines
	_ func(l *lab.Lab) []byte                                    = (*lab.Lab).Bytes
	_ func(x lab.Setup, b []byte) (*lab.Lab, api.Errno)          = lab.Read
	_ func(l *lab.Lab, s string) string                          = lab.Do
	_ func(a, b *lab.Lab) bool                                   = lab.Same
)

// TestCalls holds as soon as this file compiles: every call that the chapters list has its signature.
func TestCalls(t *testing.T) {
	x := lab.Setup{Wide: 4, High: 1, Rules: []api.Rule{{Kind: api.RNone}}, Nodes: 1}
	if x.Wide != 4 || x.High != 1 || len(x.Rules) != 1 || x.Nodes != 1 {
		t.Errorf("%v", x)
	}
}
