package phase

import (
	"slipstream/api"
	"slipstream/cell"
)

// The lines along which cells exchange particles.
const (
	eastWest   = 0
	northSouth = 1
)

// ends has for each line the two directions along it.
var ends = [2][2]int{
	eastWest:   {api.East, api.West},
	northSouth: {api.North, api.South},
}

// Exchange returns the cells of two phases after they have exchanged particles along a line by a rule.
func Exchange(a, b api.Cell, r api.Rule, line int) (api.Cell, api.Cell, api.Errno) {
	return exchanged(a, b, r, line, cell.Collide)
}

// Unexchange returns the cells that become a and b when they exchange particles along a line by a rule.
func Unexchange(a, b api.Cell, r api.Rule, line int) (api.Cell, api.Cell, api.Errno) {
	return exchanged(a, b, r, line, cell.Undo)
}

// exchanged returns two cells after a function of package cell has made by a rule of what meets along a line what it makes of pairs.
func exchanged(a, b api.Cell, r api.Rule, line int, deed func(api.Cell, api.Rule) (api.Cell, api.Errno)) (api.Cell, api.Cell, api.Errno) {
	if !cell.Valid(a) || !cell.Valid(b) || !cell.ValidRule(r) {
		return api.Cell{}, api.Cell{}, api.ErrInvalid
	}
	if line != eastWest && line != northSouth {
		return api.Cell{}, api.Cell{}, api.ErrRange
	}
	if _, e := cell.Added(a, b); e != api.OK {
		return api.Cell{}, api.Cell{}, e
	}
	ahead, behind := ends[line][0], ends[line][1]
	s, u := min(a[ahead], b[behind]), min(a[behind], b[ahead])
	// A cell with s pairs along one line and u along the other one has as many particles as meet, so that it is valid as they are.
	after, _ := deed(api.Cell{api.East: s, api.North: u, api.West: s, api.South: u}, r)
	more := after[api.East] - s
	a[ahead], a[behind] = a[ahead]+more, a[behind]-more
	b[ahead], b[behind] = b[ahead]-more, b[behind]+more
	return a, b, api.OK
}
