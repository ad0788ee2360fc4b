package grid

import (
	"slipstream/api"
	"slipstream/cell"
)

// Put returns the grid with n particles more that go in a direction at a point.
func Put(g api.Grid, p api.Point, dir, n int) (api.Grid, api.Errno) {
	mass, e := Mass(g)
	if e != api.OK {
		return api.Grid{}, e
	}
	if !isPopulation(g, p, dir) || !isCount(n) {
		return api.Grid{}, api.ErrRange
	}
	if n > api.MaxMass-mass {
		return api.Grid{}, api.ErrLimit
	}
	return grown(g, p, dir, n), api.OK
}

// Take returns the grid with n particles fewer that go in a direction at a point.
func Take(g api.Grid, p api.Point, dir, n int) (api.Grid, api.Errno) {
	if !Valid(g) {
		return api.Grid{}, api.ErrInvalid
	}
	if !isPopulation(g, p, dir) || !isCount(n) {
		return api.Grid{}, api.ErrRange
	}
	if n > g.Cells[index(g, p)][dir] {
		return api.Grid{}, api.ErrNone
	}
	return grown(g, p, dir, -n), api.OK
}

// Added returns the sum of two grids.
func Added(a, b api.Grid) (api.Grid, api.Errno) {
	if e := checkSides(a, b); e != api.OK {
		return api.Grid{}, e
	}
	sum := api.Grid{Wide: a.Wide, High: a.High, Cells: copied(a.Cells)}
	for i, c := range b.Cells {
		both, e := cell.Added(sum.Cells[i], c)
		if e != api.OK {
			return api.Grid{}, e
		}
		sum.Cells[i] = both
	}
	// The cells may each be in their limit, and all together too much.
	if !Valid(sum) {
		return api.Grid{}, api.ErrLimit
	}
	return sum, api.OK
}

// Differ returns the indexes of the cells in which two grids differ, ascending.
func Differ(a, b api.Grid) ([]int, api.Errno) {
	if e := checkSides(a, b); e != api.OK {
		return nil, e
	}
	var l []int
	for i, c := range a.Cells {
		if c != b.Cells[i] {
			l = append(l, i)
		}
	}
	return l, api.OK
}

// grown returns a valid grid with n particles more, or fewer for n below 0.
func grown(g api.Grid, p api.Point, dir, n int) api.Grid {
	cells := copied(g.Cells)
	cells[index(g, p)][dir] += n
	return api.Grid{Wide: g.Wide, High: g.High, Cells: cells}
}

func checkSides(a, b api.Grid) api.Errno {
	if !Valid(a) || !Valid(b) {
		return api.ErrInvalid
	}
	if a.Wide != b.Wide || a.High != b.High {
		return api.ErrSize
	}
	return api.OK
}

// isPopulation reports whether a point is on a grid, and a number a direction.
func isPopulation(g api.Grid, p api.Point, dir int) bool {
	onGrid := 0 <= p.X && p.X < g.Wide && 0 <= p.Y && p.Y < g.High
	return onGrid && api.East <= dir && dir <= api.South
}

func isCount(n int) bool {
	return 0 <= n && n <= api.MaxMass
}

func index(g api.Grid, p api.Point) int {
	return p.X + g.Wide*p.Y
}
