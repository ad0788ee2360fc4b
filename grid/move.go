package grid

import (
	"slipstream/api"
	"slipstream/cell"
)

// Reversed returns the grid in which all particles go the other way.
func Reversed(g api.Grid) (api.Grid, api.Errno) {
	if !Valid(g) {
		return api.Grid{}, api.ErrInvalid
	}
	stays := func(p api.Point) api.Point { return p }
	return moved(g, g.Wide, g.High, stays, turnedBy(2)), api.OK
}

// Shifted returns the grid with all cells moved by x and y, round the sides.
func Shifted(g api.Grid, x, y int) (api.Grid, api.Errno) {
	if !Valid(g) {
		return api.Grid{}, api.ErrInvalid
	}
	// The greatest numbers and a coordinate would overflow.
	x, y = around(x, g.Wide), around(y, g.High)
	shifts := func(p api.Point) api.Point {
		return api.Point{X: around(p.X+x, g.Wide), Y: around(p.Y+y, g.High)}
	}
	return moved(g, g.Wide, g.High, shifts, turnedBy(0)), api.OK
}

// Turned returns the grid turned by a quarter from east to north.
func Turned(g api.Grid) (api.Grid, api.Errno) {
	if !Valid(g) {
		return api.Grid{}, api.ErrInvalid
	}
	turns := func(p api.Point) api.Point { return api.Point{X: g.High - 1 - p.Y, Y: p.X} }
	return moved(g, g.High, g.Wide, turns, turnedBy(1)), api.OK
}

// Mirrored returns the grid with east and west exchanged.
func Mirrored(g api.Grid) (api.Grid, api.Errno) {
	if !Valid(g) {
		return api.Grid{}, api.ErrInvalid
	}
	flips := func(p api.Point) api.Point { return api.Point{X: g.Wide - 1 - p.X, Y: p.Y} }
	return moved(g, g.Wide, g.High, flips, cell.Mirrored), api.OK
}

// moved returns a grid with two sides to which each cell of a valid grid has come, and what it became on the way.
// A valid cell stays valid, so that the deed does not fail.
func moved(g api.Grid, wide, high int, place func(api.Point) api.Point, deed func(api.Cell) (api.Cell, api.Errno)) api.Grid {
	other := api.Grid{Wide: wide, High: high, Cells: make([]api.Cell, len(g.Cells))}
	for i, c := range g.Cells {
		p := place(api.Point{X: i % g.Wide, Y: i / g.Wide})
		other.Cells[index(other, p)], _ = deed(c)
	}
	return other
}

// turnedBy returns what turns a cell by quarters.
func turnedBy(quarters int) func(api.Cell) (api.Cell, api.Errno) {
	return func(c api.Cell) (api.Cell, api.Errno) { return cell.Turned(c, quarters) }
}
