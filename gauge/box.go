package gauge

import (
	"slipstream/api"
	"slipstream/grid"
	"slipstream/wall"
)

// along has for each axis the direction in which a particle counts 1, and the one in which it counts -1.
var along = [2][2]int{{api.East, api.West}, {api.North, api.South}}

// Momentum returns the momentum of a box.
func Momentum(g api.Grid, a, b api.Point, axis int) (int, api.Errno) {
	if !grid.Valid(g) {
		return 0, api.ErrInvalid
	}
	x, ok := newBox(g, a, b, axis)
	if !ok {
		return 0, api.ErrRange
	}
	return x.momentum(g), api.OK
}

// Flux returns the momentum that comes into a box in the step t, and the one that goes out.
func Flux(g api.Grid, w api.Wall, l []api.Rule, t int, a, b api.Point, axis int) (in, out int, e api.Errno) {
	after, e := wall.Step(g, w, l, t)
	if e != api.OK {
		return 0, 0, e
	}
	x, ok := newBox(g, a, b, axis)
	if !ok {
		return 0, 0, api.ErrRange
	}
	in, out = x.flux(after)
	return in, out, api.OK
}

// Told returns the gauge of a box over the steps from `from` to `to` - 1, which begin with the grid g.
func Told(g api.Grid, w api.Wall, l []api.Rule, from, to int, a, b api.Point, axis int) (api.Gauge, api.Errno) {
	// A run of no steps tells whether all is valid before a range is looked at.
	if _, e := wall.Run(g, w, l, 0, 0); e != api.OK {
		return api.Gauge{}, e
	}
	x, ok := newBox(g, a, b, axis)
	if !ok || !isStretch(from, to) || to-from > api.MaxSteps {
		return api.Gauge{}, api.ErrRange
	}
	read := api.Gauge{From: from, To: to, Before: only(x.momentum(g))}
	for t := from; t < to; t++ {
		// A valid grid stays valid in all steps, so that none of them fails.
		g, _ = wall.Step(g, w, l, t)
		in, out := x.flux(g)
		read.In, read.Out = added(read.In, only(in)), added(read.Out, only(out))
	}
	read.After = only(x.momentum(g))
	if !isGauge(read) {
		return api.Gauge{}, api.ErrLimit
	}
	return read, api.OK
}

// box is a rectangle of cells, both corners included, of which the momentum of one axis is told.
type box struct {
	low, high api.Point
	axis      int
}

// newBox returns the box between two opposite corners; false if a corner is not on the grid, or there is no such axis.
func newBox(g api.Grid, a, b api.Point, axis int) (box, bool) {
	if !isOn(g, a) || !isOn(g, b) || axis < 0 || axis >= len(along) {
		return box{}, false
	}
	low := api.Point{X: min(a.X, b.X), Y: min(a.Y, b.Y)}
	high := api.Point{X: max(a.X, b.X), Y: max(a.Y, b.Y)}
	return box{low, high, axis}, true
}

func (x box) has(p api.Point) bool {
	return x.low.X <= p.X && p.X <= x.high.X && x.low.Y <= p.Y && p.Y <= x.high.Y
}

func (x box) momentum(g api.Grid) int {
	total := 0
	for i, c := range g.Cells {
		if x.has(point(g, i)) {
			total += c[along[x.axis][0]] - c[along[x.axis][1]]
		}
	}
	return total
}

// flux returns what came in and what went out in the step that led to a grid: behind a step every particle still goes as it came.
func (x box) flux(g api.Grid) (in, out int) {
	for i, c := range g.Cells {
		to := point(g, i)
		for side, dir := range along[x.axis] {
			way := 1 - 2*side
			from := x.source(g, to, way)
			if x.has(to) && !x.has(from) {
				in += way * c[dir]
			}
			if x.has(from) && !x.has(to) {
				out += way * c[dir]
			}
		}
	}
	return in, out
}

// source returns the point from which particles come to p that go along the axis, way 1, or against it, way -1.
func (x box) source(g api.Grid, p api.Point, way int) api.Point {
	if x.axis == 0 {
		p.X = (p.X - way + g.Wide) % g.Wide
	} else {
		p.Y = (p.Y - way + g.High) % g.High
	}
	return p
}

func isOn(g api.Grid, p api.Point) bool {
	return 0 <= p.X && p.X < g.Wide && 0 <= p.Y && p.Y < g.High
}

func point(g api.Grid, i int) api.Point {
	return api.Point{X: i % g.Wide, Y: i / g.Wide}
}

// only returns the span of one number.
func only(n int) api.Span {
	return api.Span{Lo: n, Hi: n}
}
