package level

import (
	"iter"

	"slipstream/api"
	"slipstream/cell"
	"slipstream/grid"
)

// entering are, by direction, those of a coarse cell's four fine cells at the side at which particles enter that go in it.
var entering = [4][2]int{api.East: {0, 2}, api.North: {0, 1}, api.West: {1, 3}, api.South: {2, 3}}

// taker is told how many particles that go in a direction came to a point in a step, and takes them away if it answers true.
type taker func(at api.Point, dir, n int) bool

// door is a fine cell, by its index, with a direction in which particles come into it.
type door struct{ at, dir int }

// machine is a valid patch that goes steps by valid rules, in place.
// It stays valid in all of them, so that what it calls of the packages below does not fail.
type machine struct {
	patch        api.Patch
	coarse, fine level
	// parts has what bursts in a step: how many come in behind the first fine step, and behind the second one.
	parts map[door][2]int
}

// level is one of the two grids of a patch.
type level struct {
	grid  *api.Grid
	rules []api.Rule
}

// newMachine returns a machine whose patch has memory of its own.
func newMachine(p api.Patch, l []api.Rule) *machine {
	p.Coarse, p.Fine = copied(p.Coarse), copied(p.Fine)
	m := &machine{patch: p, parts: map[door][2]int{}}
	m.coarse = level{&m.patch.Coarse, l}
	m.fine = level{&m.patch.Fine, l}
	return m
}

// step makes the step t, and returns how many particles burst in it and how many are gathered.
func (m *machine) step(t int) (entered, left int) {
	clear(m.parts)
	entered = crossed(m.coarse.step, t, m.burst)
	for turn, number := range fineSteps(t) {
		left += crossed(m.fine.step, number, m.gather)
		m.admit(turn)
	}
	return entered, left
}

// fineSteps yields the numbers of the two fine steps of the step t, behind 0 for the first and 1 for the second one.
func fineSteps(t int) iter.Seq2[int, int] {
	return func(yield func(int, int) bool) {
		for turn := range 2 {
			if !yield(turn, 2*t+turn) {
				return
			}
		}
	}
}

// crossed makes a step of one of the grids, hands what comes to each point on to a taker, and returns how many particles it took.
func crossed(step func(t int, take taker), t int, take taker) int {
	total := 0
	step(t, func(at api.Point, dir, n int) bool {
		taken := take(at, dir, n)
		if taken {
			total += n
		}
		return taken
	})
	return total
}

// step makes the step t of a grid as if it were alone, so that what leaves at one side comes in at the other one; what is not to stay where it came is the taker's.
func (v *level) step(t int, take taker) {
	*v.grid, _ = grid.Step(*v.grid, v.rules, t)
	for i, c := range v.grid.Cells {
		at := api.Point{X: i % v.grid.Wide, Y: i / v.grid.Wide}
		for dir, n := range c {
			if n > 0 && take(at, dir, n) {
				v.grid.Cells[i][dir] = 0
			}
		}
	}
}

// burst takes coarse particles that came into the rectangle: it was empty before, so all that are in it came in this step.
func (m *machine) burst(at api.Point, dir, n int) bool {
	if !isInside(m.patch, at) {
		return false
	}
	var c api.Cell
	c[dir] = n
	parts, _ := cell.Split(c)
	four := fineCells(m.patch, at)
	for i, quarter := range entering[dir] {
		m.parts[door{four[quarter], dir}] = [2]int{parts[i][dir], parts[i+2][dir]}
	}
	return true
}

// gather takes fine particles that left the fine grid, and adds them to the coarse cells into which they came.
// Coarse has made its step by then, so that they are not streamed again.
func (m *machine) gather(at api.Point, dir, n int) bool {
	to, gone := m.outside(at, dir)
	if gone {
		m.patch.Coarse.Cells[to.X+m.patch.Coarse.Wide*to.Y][dir] += n
	}
	return gone
}

// outside returns the coarse cell to which fine particles left that went in a direction; it is false if they did not leave.
// Those that left came in at the other side of the fine grid, and no others of their direction are there.
func (m *machine) outside(at api.Point, dir int) (api.Point, bool) {
	p := m.patch
	to := coarseCell(p, at)
	switch {
	case dir == api.East && at.X == 0:
		to.X = p.X1
	case dir == api.North && at.Y == 0:
		to.Y = p.Y1
	case dir == api.West && at.X == p.Fine.Wide-1:
		to.X = p.X0 - 1
	case dir == api.South && at.Y == p.Fine.High-1:
		to.Y = p.Y0 - 1
	default:
		return api.Point{}, false
	}
	return to, true
}

// admit lets the parts come in that burst for a fine step, 0 for the first and 1 for the second one.
func (m *machine) admit(turn int) {
	for to, counts := range m.parts {
		m.patch.Fine.Cells[to.at][to.dir] += counts[turn]
	}
}
