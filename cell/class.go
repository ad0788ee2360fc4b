package cell

import "slipstream/api"

// Norm returns the cell of c's class with the place 0.
func Norm(c api.Cell) (api.Cell, api.Errno) {
	if !Valid(c) {
		return api.Cell{}, api.ErrInvalid
	}
	return paired(c, 0), api.OK
}

// Place returns a cell's place in its class, and how many cells the class has.
func Place(c api.Cell) (place, size int, e api.Errno) {
	h, v, e := Pairs(c)
	if e != api.OK {
		return 0, 0, e
	}
	return h, h + v + 1, api.OK
}

// Of returns the cell with a mass, a momentum and a place in its class.
func Of(mass, east, north, place int) (api.Cell, api.Errno) {
	if mass < 0 || mass > api.MaxMass || !isMomentum(east) || !isMomentum(north) || place < 0 {
		return api.Cell{}, api.ErrRange
	}
	spare := mass - max(east, -east) - max(north, -north)
	if spare < 0 || spare%2 != 0 || place > spare/2 {
		return api.Cell{}, api.ErrNone
	}
	h, v := place, spare/2-place
	return api.Cell{
		api.East:  h + max(east, 0),
		api.North: v + max(north, 0),
		api.West:  h + max(-east, 0),
		api.South: v + max(-north, 0),
	}, api.OK
}

// Same reports whether two cells are valid and of one class.
func Same(a, b api.Cell) bool {
	first, e := Norm(a)
	if e != api.OK {
		return false
	}
	second, e := Norm(b)
	return e == api.OK && first == second
}

func isMomentum(n int) bool {
	return -api.MaxMass <= n && n <= api.MaxMass
}
