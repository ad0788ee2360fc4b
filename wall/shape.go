package wall

import (
	"iter"

	"slipstream/api"
)

// maxRadius is the greatest squared radius of a disc.
const maxRadius = 10000

// shape reports whether a point lies in it; it may reach beyond the grid.
type shape func(api.Point) bool

// Disc returns the wall with a disc of cells that send particles back.
func Disc(g api.Grid, w api.Wall, p api.Point, q, body int) (api.Wall, api.Errno) {
	if e := checkDisc(g, w, p, q, body); e != api.OK {
		return api.Wall{}, e
	}
	return built(g, w, disc(p, q), all(api.WBack), body)
}

// Smooth returns the wall with a disc that has mirrors at its corners.
func Smooth(g api.Grid, w api.Wall, p api.Point, q, body int) (api.Wall, api.Errno) {
	if e := checkDisc(g, w, p, q, body); e != api.OK {
		return api.Wall{}, e
	}
	return built(g, w, disc(p, q), smoothed(g, disc(p, q)), body)
}

// Box returns the wall with a box of cells of a kind, from one corner to the other.
func Box(g api.Grid, w api.Wall, p, q api.Point, kind, body int) (api.Wall, api.Errno) {
	if e := checkShape(g, w, p, body); e != api.OK {
		return api.Wall{}, e
	}
	if !isOn(g, q) || !isWall(kind) {
		return api.Wall{}, api.ErrRange
	}
	return built(g, w, box(p, q), all(kind), body)
}

// Slope returns the wall with a row of mirrors from a point to the right, up or down.
func Slope(g api.Grid, w api.Wall, p api.Point, n int, up bool, body int) (api.Wall, api.Errno) {
	if e := checkShape(g, w, p, body); e != api.OK {
		return api.Wall{}, e
	}
	if n < 1 || n > api.MaxSide {
		return api.Wall{}, api.ErrRange
	}
	if up {
		return built(g, w, slope(p, n, 1), all(api.WSlash), body)
	}
	return built(g, w, slope(p, n, -1), all(api.WBlash), body)
}

func disc(centre api.Point, q int) shape {
	return func(p api.Point) bool {
		x, y := p.X-centre.X, p.Y-centre.Y
		return x*x+y*y <= q
	}
}

func box(a, b api.Point) shape {
	return func(p api.Point) bool {
		return min(a.X, b.X) <= p.X && p.X <= max(a.X, b.X) && min(a.Y, b.Y) <= p.Y && p.Y <= max(a.Y, b.Y)
	}
}

// slope is n points from the first one on, each one to the right of the one before, and above it by rise.
func slope(first api.Point, n, rise int) shape {
	return func(p api.Point) bool {
		step := p.X - first.X
		return 0 <= step && step < n && p.Y == first.Y+rise*step
	}
}

// all tells the same kind for every point.
func all(kind int) func(api.Point) int {
	return func(api.Point) int { return kind }
}

// smoothed tells the kinds of the cells of a smooth shape.
func smoothed(g api.Grid, in shape) func(api.Point) int {
	missing := func(x, y int) bool {
		p := api.Point{X: x, Y: y}
		return !isOn(g, p) || !in(p)
	}
	return func(p api.Point) int {
		east, west := missing(p.X+1, p.Y), missing(p.X-1, p.Y)
		north, south := missing(p.X, p.Y+1), missing(p.X, p.Y-1)
		// Two that are missing and not opposite are one of each axis.
		switch {
		case east == west || north == south:
			return api.WBack
		case west == north:
			return api.WSlash
		}
		return api.WBlash
	}
}

// built returns the wall in which the cells of a shape belong to a body and are of the kinds that a function tells.
func built(g api.Grid, w api.Wall, in shape, kind func(api.Point) int, body int) (api.Wall, api.Errno) {
	more := copied(w)
	for p := range pointsIn(g, in) {
		i := index(g, p)
		if more.Body[i] != 0 && more.Body[i] != body {
			return api.Wall{}, api.ErrWall
		}
		more.Kind[i], more.Body[i] = kind(p), body
	}
	return more, api.OK
}

// pointsIn yields the points of a grid that lie in a shape.
func pointsIn(g api.Grid, in shape) iter.Seq[api.Point] {
	return func(yield func(api.Point) bool) {
		for i := range g.Cells {
			p := api.Point{X: i % g.Wide, Y: i / g.Wide}
			if in(p) && !yield(p) {
				return
			}
		}
	}
}

func checkDisc(g api.Grid, w api.Wall, p api.Point, q, body int) api.Errno {
	if e := checkShape(g, w, p, body); e != api.OK {
		return e
	}
	if q < 0 || q > maxRadius {
		return api.ErrRange
	}
	return api.OK
}

func checkShape(g api.Grid, w api.Wall, p api.Point, body int) api.Errno {
	if e := checkBody(g, w, body); e != api.OK {
		return e
	}
	if !isOn(g, p) {
		return api.ErrRange
	}
	return api.OK
}
