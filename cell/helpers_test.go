package cell_test

import (
	"math"
	"testing"

	"slipstream/api"
	"slipstream/cell"
)

var some = api.Cell{5, 2, 3, 4}

func none() api.Rule { return api.Rule{Kind: api.RNone} }

func turn() api.Rule { return api.Rule{Kind: api.RTurn} }

func shift(by int) api.Rule { return api.Rule{Kind: api.RShift, By: by} }

// smallCells returns all cells whose populations are at most 4.
func smallCells() []api.Cell {
	var l []api.Cell
	for i := range 5 * 5 * 5 * 5 {
		l = append(l, api.Cell{i % 5, i / 5 % 5, i / 25 % 5, i / 125})
	}
	return l
}

// largeCells returns cells near the limit of mass.
func largeCells() []api.Cell {
	return []api.Cell{
		{api.MaxMass},
		{0, 0, 0, api.MaxMass},
		{500000000, 0, 500000000, 0},
		{0, 500000000, 0, 500000000},
		{250000000, 250000000, 250000000, 250000000},
		{400000001, 99999999, 300000000, 200000000},
		{1, 333333333, 333333333, 333333333},
	}
}

func validCells() []api.Cell { return append(smallCells(), largeCells()...) }

func invalidCells() []api.Cell {
	return []api.Cell{
		{-1, 5, 5, 5}, {5, -1, 5, 5}, {5, 5, -1, 5}, {5, 5, 5, -1},
		{api.MaxMass + 1}, {0, api.MaxMass + 1}, {0, 0, api.MaxMass + 1}, {0, 0, 0, api.MaxMass + 1},
		{api.MaxMass, 1}, {0, 0, api.MaxMass, 1}, {500000000, 500000000, 0, 1}, {250000000, 250000001, 250000000, 250000000},
		// What these have together is small if it overflows.
		{math.MaxInt, math.MaxInt, 2, 0}, {1 << 62, 1 << 62, 1 << 62, 1 << 62}, {math.MinInt, 5}, {math.MinInt, math.MinInt, 0, 0}, {-5, 10, 0, 0},
	}
}

// validRules returns rules of all kinds, with shifts below, at and far above the sizes of small classes.
func validRules() []api.Rule {
	l := []api.Rule{none(), turn(), shift(api.MaxMass), shift(-api.MaxMass), shift(api.MaxMass - 1), shift(123456789)}
	for by := -12; by <= 12; by++ {
		l = append(l, shift(by))
	}
	return l
}

func invalidRules() []api.Rule {
	return []api.Rule{
		{Kind: -1}, {Kind: 3}, {Kind: math.MinInt}, {Kind: math.MaxInt}, {Kind: 3, By: 1}, {Kind: 4},
		{Kind: api.RNone, By: 1}, {Kind: api.RNone, By: -1}, {Kind: api.RTurn, By: 1}, {Kind: api.RTurn, By: -1},
		shift(api.MaxMass + 1), shift(-api.MaxMass - 1), shift(math.MaxInt), shift(math.MinInt),
	}
}

// invalidLists returns lists of rules that are no valid rules.
func invalidLists() [][]api.Rule {
	l := [][]api.Rule{nil, {}, make([]api.Rule, api.MaxRules+1), make([]api.Rule, 100)}
	for i := range api.MaxRules {
		rules := make([]api.Rule, api.MaxRules)
		rules[i] = shift(api.MaxMass + 1)
		l = append(l, rules)
	}
	return l
}

// collide is the rule of section 1.1 as it is written there, for cells that are valid.
func collide(c api.Cell, r api.Rule) api.Cell {
	h, v := min(c[api.East], c[api.West]), min(c[api.North], c[api.South])
	after := h
	switch r.Kind {
	case api.RTurn:
		after = v
	case api.RShift:
		size := h + v + 1
		after = ((h+r.By)%size + size) % size
	}
	return api.Cell{c[0] + after - h, c[1] + h - after, c[2] + after - h, c[3] + h - after}
}

func collided(t *testing.T, c api.Cell, r api.Rule) api.Cell {
	t.Helper()
	d, e := cell.Collide(c, r)
	if e != api.OK {
		t.Fatalf("Collide(%v, %v): error %d", c, r, e)
	}
	return d
}

func undone(t *testing.T, c api.Cell, r api.Rule) api.Cell {
	t.Helper()
	d, e := cell.Undo(c, r)
	if e != api.OK {
		t.Fatalf("Undo(%v, %v): error %d", c, r, e)
	}
	return d
}

func turned(t *testing.T, c api.Cell, quarters int) api.Cell {
	t.Helper()
	d, e := cell.Turned(c, quarters)
	if e != api.OK {
		t.Fatalf("Turned(%v, %d): error %d", c, quarters, e)
	}
	return d
}

func mirrored(t *testing.T, c api.Cell) api.Cell {
	t.Helper()
	d, e := cell.Mirrored(c)
	if e != api.OK {
		t.Fatalf("Mirrored(%v): error %d", c, e)
	}
	return d
}

func norm(t *testing.T, c api.Cell) api.Cell {
	t.Helper()
	d, e := cell.Norm(c)
	if e != api.OK {
		t.Fatalf("Norm(%v): error %d", c, e)
	}
	return d
}
