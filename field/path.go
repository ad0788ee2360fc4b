package field

import (
	"iter"
	"slices"
	"strings"

	"slipstream/api"
	"slipstream/grid"
)

// move is one place along a direction, and the direction's sign in a picture.
type move struct {
	x, y int
	sign byte
}

// moves has the move of each direction.
var moves = [4]move{api.East: {1, 0, '>'}, api.North: {0, 1, '^'}, api.West: {-1, 0, '<'}, api.South: {0, -1, 'v'}}

// Main returns the main way of a cell.
func Main(g api.Grid, p api.Point) (int, api.Errno) {
	i, e := index(g, p)
	if e != api.OK {
		return 0, e
	}
	dir, ok := mainWay(g.Cells[i])
	if !ok {
		return 0, api.ErrNone
	}
	return dir, api.OK
}

// Path returns the cells of a path in order, and whether it came to a cell that it had.
func Path(g api.Grid, p api.Point) ([]api.Point, bool, api.Errno) {
	start, e := index(g, p)
	if e != api.OK {
		return nil, false, e
	}
	var path []api.Point
	had := map[int]bool{}
	for i := range along(g, start) {
		if had[i] {
			return path, true, api.OK
		}
		had[i] = true
		path = append(path, point(g, i))
	}
	return path, false, api.OK
}

// Sinks returns the indexes of the empty cells to which a main way leads, ascending.
func Sinks(g api.Grid) ([]int, api.Errno) {
	if !grid.Valid(g) {
		return nil, api.ErrInvalid
	}
	var sinks []int
	for i := range g.Cells {
		to, ok := next(g, i)
		if ok && g.Cells[to] == (api.Cell{}) {
			sinks = append(sinks, to)
		}
	}
	slices.Sort(sinks)
	return slices.Compact(sinks), api.OK
}

// Rings returns the closed paths as indexes of their cells, each one from its least index on, in the order of those.
func Rings(g api.Grid) ([][]int, api.Errno) {
	if !grid.Valid(g) {
		return nil, api.ErrInvalid
	}
	var rings [][]int
	// A cell is marked with the start of the path that came to it first.
	marks := map[int]int{}
	for start := range g.Cells {
		for i := range along(g, start) {
			mark, marked := marks[i]
			if marked && mark == start {
				rings = append(rings, ring(g, i))
			}
			if marked {
				break
			}
			marks[i] = start
		}
	}
	slices.SortFunc(rings, slices.Compare)
	return rings, api.OK
}

// Picture returns a text of a sign for each cell, the highest row first.
func Picture(g api.Grid) string {
	var text strings.Builder
	// A grid that is not valid has no rows.
	rows, _ := lines(g, 1)
	for _, row := range slices.Backward(rows) {
		for c := range row.cells() {
			text.WriteByte(sign(c))
		}
		text.WriteByte('\n')
	}
	return text.String()
}

// ring returns the closed path on which a cell lies.
func ring(g api.Grid, start int) []int {
	var cells []int
	for i := range along(g, start) {
		if len(cells) > 0 && i == start {
			break
		}
		cells = append(cells, i)
	}
	least := slices.Index(cells, slices.Min(cells))
	return slices.Concat(cells[least:], cells[:least])
}

// along yields a cell and those to which main ways lead from there, by their indexes; where they come round it does not end by itself.
func along(g api.Grid, start int) iter.Seq[int] {
	return func(yield func(int) bool) {
		i, ok := start, true
		for ok && yield(i) {
			i, ok = next(g, i)
		}
	}
}

// next returns the index of the cell to which the main way of a cell leads; false if the cell is empty.
func next(g api.Grid, i int) (int, bool) {
	dir, ok := mainWay(g.Cells[i])
	if !ok {
		return 0, false
	}
	p, m := point(g, i), moves[dir]
	return (p.X+m.x+g.Wide)%g.Wide + g.Wide*((p.Y+m.y+g.High)%g.High), true
}

// mainWay returns the main way of a cell; false if the cell is empty.
func mainWay(c api.Cell) (int, bool) {
	if c == (api.Cell{}) {
		return 0, false
	}
	directions := slices.Values([]int{api.East, api.North, api.West, api.South})
	return greatest(directions, func(dir int) int { return c[dir] }), true
}

func sign(c api.Cell) byte {
	dir, ok := mainWay(c)
	if !ok {
		return '.'
	}
	return moves[dir].sign
}

// index returns the index of a point.
func index(g api.Grid, p api.Point) (int, api.Errno) {
	if !grid.Valid(g) {
		return 0, api.ErrInvalid
	}
	if !isOn(g, p) {
		return 0, api.ErrRange
	}
	return p.X + g.Wide*p.Y, api.OK
}
