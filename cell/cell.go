// Package cell collides the particles of one cell, and undoes it.
package cell

import "slipstream/api"

// Valid reports whether no population is below 0 and all together are at most api.MaxMass.
func Valid(c api.Cell) bool {
	_, ok := sum(c[:]...)
	return ok
}

// Mass returns the number of a cell's particles.
func Mass(c api.Cell) (int, api.Errno) {
	mass, ok := sum(c[:]...)
	if !ok {
		return 0, api.ErrInvalid
	}
	return mass, api.OK
}

// Momentum returns the particles that go east less those that go west, and north less south.
func Momentum(c api.Cell) (east, north int, e api.Errno) {
	if !Valid(c) {
		return 0, 0, api.ErrInvalid
	}
	return c[api.East] - c[api.West], c[api.North] - c[api.South], api.OK
}

// Pairs returns how many pairs meet head-on east-west and north-south.
func Pairs(c api.Cell) (h, v int, e api.Errno) {
	if !Valid(c) {
		return 0, 0, api.ErrInvalid
	}
	h, v = pairs(c)
	return h, v, api.OK
}

// Collide returns the cell that c becomes by a rule.
func Collide(c api.Cell, r api.Rule) (api.Cell, api.Errno) {
	if !Valid(c) || !ValidRule(r) {
		return api.Cell{}, api.ErrInvalid
	}
	h, v := pairs(c)
	return paired(c, deeds()[r.Kind](h, h+v, r.By)), api.OK
}

// Undo returns the cell that becomes c by a rule.
func Undo(c api.Cell, r api.Rule) (api.Cell, api.Errno) {
	back, e := Inverse(r)
	if e != api.OK {
		return api.Cell{}, e
	}
	return Collide(c, back)
}

// Order returns the least number of times, 1 or more, after which a rule brings a cell back to itself.
func Order(c api.Cell, r api.Rule) (int, api.Errno) {
	h, v, e := Pairs(c)
	if e != api.OK || !ValidRule(r) {
		return 0, api.ErrInvalid
	}
	size := h + v + 1
	switch {
	case r.Kind == api.RShift:
		return size / divisor(size, modulo(r.By, size)), api.OK
	case r.Kind == api.RTurn && h != v:
		return 2, api.OK
	}
	return 1, api.OK
}

// sum adds populations up; it is false for one below 0 and for more than api.MaxMass together.
// It stops before the first number that is too much, so that no sum overflows.
func sum(populations ...int) (int, bool) {
	total := 0
	for _, n := range populations {
		if n < 0 || n > api.MaxMass-total {
			return 0, false
		}
		total += n
	}
	return total, true
}

func pairs(c api.Cell) (h, v int) {
	return min(c[api.East], c[api.West]), min(c[api.North], c[api.South])
}

// paired returns the cell of c's class with h pairs east-west.
func paired(c api.Cell, h int) api.Cell {
	before, _ := pairs(c)
	more := h - before
	return api.Cell{
		api.East:  c[api.East] + more,
		api.North: c[api.North] - more,
		api.West:  c[api.West] + more,
		api.South: c[api.South] - more,
	}
}
