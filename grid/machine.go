package grid

import (
	"iter"

	"slipstream/api"
	"slipstream/cell"
)

// The ways in which all particles stream.
const (
	onward   = 1
	backward = -1
)

// machine is a valid grid that goes steps by valid rules, in place.
// A valid grid stays valid in all of them, so that what the machine calls of package cell does not fail.
type machine struct {
	api.Grid
	rules []api.Rule
	spare []api.Cell
}

// newMachine returns a machine with cells of its own.
func newMachine(g api.Grid, l []api.Rule) *machine {
	cells := copied(g.Cells)
	return &machine{
		Grid:  api.Grid{Wide: g.Wide, High: g.High, Cells: cells},
		rules: l,
		spare: make([]api.Cell, len(cells)),
	}
}

// step makes the step t.
func (m *machine) step(t int) {
	m.change(cell.Collide, t)
	m.stream(onward)
}

// back undoes the step t.
func (m *machine) back(t int) {
	m.stream(backward)
	m.change(cell.Undo, t)
}

// change does to every cell what a function of package cell makes of it by the rule of t.
func (m *machine) change(deed func(api.Cell, api.Rule) (api.Cell, api.Errno), t int) {
	r, _ := cell.At(m.rules, t)
	for i, c := range m.Cells {
		m.Cells[i], _ = deed(c, r)
	}
}

// stream moves all particles one place along the way they go, or one place back.
// Every population of every cell is written, so that nothing is left of what the spare cells had.
func (m *machine) stream(way int) {
	for i, c := range m.Cells {
		x, y := i%m.Wide, i/m.Wide
		for dir, n := range c {
			m.spare[m.neighbour(x, y, dir, way)][dir] = n
		}
	}
	m.Cells, m.spare = m.spare, m.Cells
}

// neighbour returns the index of the cell that is one place from (x, y) in a direction, or opposite to it.
func (m *machine) neighbour(x, y, dir, way int) int {
	switch dir {
	case api.East:
		x += way
	case api.North:
		y += way
	case api.West:
		x -= way
	case api.South:
		y -= way
	}
	return around(x, m.Wide) + m.Wide*around(y, m.High)
}

// stepNumbers yields n numbers of steps, from first on, each one by more than the one before.
func stepNumbers(first, by, n int) iter.Seq[int] {
	return func(yield func(int) bool) {
		for i := range n {
			if !yield(first + by*i) {
				return
			}
		}
	}
}

// do does a deed at each number of a step.
func do(deed func(t int), steps iter.Seq[int]) {
	for t := range steps {
		deed(t)
	}
}
