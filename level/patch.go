package level

import (
	"iter"
	"slices"

	"slipstream/api"
	"slipstream/grid"
)

// Valid reports whether both grids of a patch are valid, the rectangle is empty in Coarse, off its sides and as large as Fine, and the masses are together at most api.MaxMass.
func Valid(p api.Patch) bool {
	_, e := Mass(p)
	return e == api.OK
}

// Opened returns the patch of a grid of which the rectangle with two opposite corner cells is refined.
func Opened(g api.Grid, a, b api.Point) (api.Patch, api.Errno) {
	if !grid.Valid(g) {
		return api.Patch{}, api.ErrInvalid
	}
	if !isWithin(g, a) || !isWithin(g, b) {
		return api.Patch{}, api.ErrRange
	}
	p := api.Patch{
		Coarse: copied(g),
		X0:     min(a.X, b.X), Y0: min(a.Y, b.Y),
		X1: max(a.X, b.X) + 1, Y1: max(a.Y, b.Y) + 1,
	}
	part := api.Grid{Wide: p.X1 - p.X0, High: p.Y1 - p.Y0}
	for i := range rectangle(p) {
		part.Cells = append(part.Cells, g.Cells[i])
		p.Coarse.Cells[i] = api.Cell{}
	}
	fine, e := Refine(part)
	if e != api.OK {
		return api.Patch{}, e
	}
	p.Fine = fine
	return p, api.OK
}

// Shut returns the grid of a patch in which the rectangle has the coarsened cells of Fine.
func Shut(p api.Patch) (api.Grid, api.Errno) {
	if !Valid(p) {
		return api.Grid{}, api.ErrInvalid
	}
	g := copied(p.Coarse)
	part, _ := Coarsen(p.Fine)
	left := part.Cells
	for i := range rectangle(p) {
		g.Cells[i] = left[0]
		left = left[1:]
	}
	return g, api.OK
}

// Mass returns how many particles both levels have.
func Mass(p api.Patch) (int, api.Errno) {
	coarse, e := grid.Mass(p.Coarse)
	if e != api.OK {
		return 0, e
	}
	fine, e := grid.Mass(p.Fine)
	if e != api.OK {
		return 0, e
	}
	if !isRectangle(p) || coarse+fine > api.MaxMass {
		return 0, api.ErrInvalid
	}
	for i := range rectangle(p) {
		if p.Coarse.Cells[i] != (api.Cell{}) {
			return 0, api.ErrInvalid
		}
	}
	return coarse + fine, api.OK
}

// Momentum returns the momentum of both levels together.
func Momentum(p api.Patch) (east, north int, e api.Errno) {
	if !Valid(p) {
		return 0, 0, api.ErrInvalid
	}
	east, north, _ = grid.Momentum(p.Coarse)
	x, y, _ := grid.Momentum(p.Fine)
	return east + x, north + y, api.OK
}

// Inside reports whether a coarse cell is in the rectangle.
func Inside(p api.Patch, c api.Point) (bool, api.Errno) {
	if !Valid(p) {
		return false, api.ErrInvalid
	}
	if !isOn(p.Coarse, c) {
		return false, api.ErrRange
	}
	return isInside(p, c), api.OK
}

// Fine returns the indexes, in the fine grid, of the four fine cells of a coarse one.
func Fine(p api.Patch, c api.Point) ([4]int, api.Errno) {
	in, e := Inside(p, c)
	if e != api.OK {
		return [4]int{}, e
	}
	if !in {
		return [4]int{}, api.ErrNone
	}
	return fineCells(p, c), api.OK
}

// Coarse returns the coarse cell of a fine one.
func Coarse(p api.Patch, c api.Point) (api.Point, api.Errno) {
	if !Valid(p) {
		return api.Point{}, api.ErrInvalid
	}
	if !isOn(p.Fine, c) {
		return api.Point{}, api.ErrRange
	}
	return coarseCell(p, c), api.OK
}

// Same reports whether two patches are valid and equal.
func Same(a, b api.Patch) bool {
	if a.X0 != b.X0 || a.Y0 != b.Y0 || a.X1 != b.X1 || a.Y1 != b.Y1 {
		return false
	}
	// What is equal to a valid patch is valid.
	return Valid(a) && equal(a.Coarse, b.Coarse) && equal(a.Fine, b.Fine)
}

// isRectangle reports whether the rectangle is off the sides of Coarse, and Fine has four cells for each of its cells.
func isRectangle(p api.Patch) bool {
	if p.X0 < 1 || p.X0 >= p.X1 || p.X1 > p.Coarse.Wide-1 {
		return false
	}
	if p.Y0 < 1 || p.Y0 >= p.Y1 || p.Y1 > p.Coarse.High-1 {
		return false
	}
	return p.Fine.Wide == 2*(p.X1-p.X0) && p.Fine.High == 2*(p.Y1-p.Y0)
}

// rectangle yields the indexes in Coarse of the cells of the rectangle, row by row: in the order of the coarsened Fine.
func rectangle(p api.Patch) iter.Seq[int] {
	return func(yield func(int) bool) {
		for y := p.Y0; y < p.Y1; y++ {
			for x := p.X0; x < p.X1; x++ {
				if !yield(x + p.Coarse.Wide*y) {
					return
				}
			}
		}
	}
}

// isWithin reports whether a point is on a grid, and not in its first or last column or row.
func isWithin(g api.Grid, c api.Point) bool {
	return 1 <= c.X && c.X < g.Wide-1 && 1 <= c.Y && c.Y < g.High-1
}

func isOn(g api.Grid, c api.Point) bool {
	return 0 <= c.X && c.X < g.Wide && 0 <= c.Y && c.Y < g.High
}

func isInside(p api.Patch, c api.Point) bool {
	return p.X0 <= c.X && c.X < p.X1 && p.Y0 <= c.Y && c.Y < p.Y1
}

// fineCells returns the indexes in Fine of the fine cells of a coarse one in the rectangle.
func fineCells(p api.Patch, c api.Point) [4]int {
	return quarters(c.X-p.X0, c.Y-p.Y0, p.Fine.Wide)
}

// coarseCell returns the coarse cell of a cell on Fine.
func coarseCell(p api.Patch, c api.Point) api.Point {
	return api.Point{X: p.X0 + c.X/2, Y: p.Y0 + c.Y/2}
}

func equal(a, b api.Grid) bool {
	return a.Wide == b.Wide && a.High == b.High && slices.Equal(a.Cells, b.Cells)
}

// copied returns a grid in memory of its own.
func copied(g api.Grid) api.Grid {
	g.Cells = slices.Clone(g.Cells)
	return g
}
