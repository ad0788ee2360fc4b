package wall

import (
	"slices"

	"slipstream/api"
	"slipstream/cell"
	"slipstream/grid"
)

// tunnel is a valid grid in a valid wall that goes steps by valid rules.
// A valid grid stays valid in all of them, so that what the tunnel calls of packages cell and grid does not fail.
type tunnel struct {
	api.Grid
	api.Wall
	rules []api.Rule
}

// newTunnel returns a tunnel with cells of its own; wall and rules are only read.
func newTunnel(g api.Grid, w api.Wall, l []api.Rule) *tunnel {
	g.Cells = slices.Clone(g.Cells)
	return &tunnel{Grid: g, Wall: w, rules: l}
}

// step makes the step t.
func (u *tunnel) step(t int) {
	u.change(cell.Collide, t)
	u.Grid, _ = grid.Stream(u.Grid)
}

// back undoes the step t. Walls undo what they did by doing it again.
func (u *tunnel) back(t int) {
	u.Grid, _ = grid.Unstream(u.Grid)
	u.change(cell.Undo, t)
}

// change lets the walls send their particles, and does to every open cell what a function of package cell makes of it by the rule of t.
func (u *tunnel) change(deed func(api.Cell, api.Rule) (api.Cell, api.Errno), t int) {
	r, _ := cell.At(u.rules, t)
	for i, c := range u.Cells {
		if u.Kind[i] == api.WOpen {
			u.Cells[i], _ = deed(c, r)
		} else {
			u.Cells[i] = sent(c, u.Kind[i])
		}
	}
}

// impulse returns what the next step's walls of a body give.
func (u *tunnel) impulse(body int) api.Push {
	var p api.Push
	for i := range cellsOf(u.Wall, body) {
		before := u.Cells[i]
		after := sent(before, u.Kind[i])
		oldEast, oldNorth, _ := cell.Momentum(before)
		newEast, newNorth, _ := cell.Momentum(after)
		p.East += newEast - oldEast
		p.North += newNorth - oldNorth
	}
	return p
}
