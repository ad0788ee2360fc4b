package grid_test

import (
	"math"
	"slices"
	"testing"

	"slipstream/api"
	"slipstream/grid"
)

func TestValid(t *testing.T) {
	for _, g := range validGrids() {
		if !grid.Valid(g) {
			t.Errorf("a grid of %d by %d is not valid", g.Wide, g.High)
		}
	}
	for _, g := range invalidGrids() {
		if grid.Valid(g) {
			t.Errorf("valid: %d by %d, %v", g.Wide, g.High, g.Cells)
		}
	}
}

func TestEmpty(t *testing.T) {
	for wide := -1; wide <= 66; wide++ {
		for high := -1; high <= 66; high++ {
			g, e := grid.Empty(wide, high)
			switch {
			case wide < 1 || wide > 64 || high < 1 || high > 64:
				if !isZero(g) || e != api.ErrRange {
					t.Errorf("Empty(%d, %d) = %v, %d", wide, high, g, e)
				}
			case wide*high > 1024:
				if !isZero(g) || e != api.ErrLimit {
					t.Errorf("Empty(%d, %d) = %v, %d", wide, high, g, e)
				}
			default:
				if !equal(g, filled(wide, high, 1, 0)) || e != api.OK {
					t.Errorf("Empty(%d, %d) = %v, %d", wide, high, g, e)
				}
			}
		}
	}
	for _, s := range [][2]int{{math.MinInt, 1}, {1, math.MinInt}, {math.MaxInt, 2}, {2, math.MaxInt}, {1 << 32, 1 << 32}, {0, 2000}} {
		if g, e := grid.Empty(s[0], s[1]); !isZero(g) || e != api.ErrRange {
			t.Errorf("Empty(%v) = %v, %d", s, g, e)
		}
	}
}

func TestEmptyIsNewMemory(t *testing.T) {
	a := done(t)(grid.Empty(2, 2))
	a.Cells[3][1] = 5
	if b := done(t)(grid.Empty(2, 2)); !equal(b, filled(2, 2, 1, 0)) {
		t.Errorf("Empty = %v", b)
	}
}

func TestMassAndMomentum(t *testing.T) {
	for _, g := range validGrids() {
		mass, east, north := 0, 0, 0
		for _, c := range g.Cells {
			mass += c[0] + c[1] + c[2] + c[3]
			east += c[0] - c[2]
			north += c[1] - c[3]
		}
		if n, e := grid.Mass(g); n != mass || e != api.OK {
			t.Errorf("Mass = %d, %d, want %d", n, e, mass)
		}
		if x, y, e := grid.Momentum(g); x != east || y != north || e != api.OK {
			t.Errorf("Momentum = %d, %d, %d, want %d, %d", x, y, e, east, north)
		}
	}
	full := api.Grid{Wide: 1, High: 1, Cells: []api.Cell{{0, 0, 0, api.MaxMass}}}
	if n, e := grid.Mass(full); n != api.MaxMass || e != api.OK {
		t.Errorf("Mass = %d, %d", n, e)
	}
	if x, y, e := grid.Momentum(full); x != 0 || y != -api.MaxMass || e != api.OK {
		t.Errorf("Momentum = %d, %d, %d", x, y, e)
	}
}

// TestInvalidGrids calls all that is given a grid with one that is not valid; the other arguments are valid, and then also not.
func TestInvalidGrids(t *testing.T) {
	good := filled(2, 2, 3, 1)
	off := api.Point{X: -1}
	for _, g := range invalidGrids() {
		calls := append(calls(),
			call{"Step", func(g api.Grid) (api.Grid, api.Errno) { return grid.Step(g, nil, -1) }},
			call{"Back", func(g api.Grid) (api.Grid, api.Errno) { return grid.Back(g, nil, -1) }},
			call{"Run", func(g api.Grid) (api.Grid, api.Errno) { return grid.Run(g, validRules()[0], -1, -1) }},
			call{"Undo", func(g api.Grid) (api.Grid, api.Errno) { return grid.Undo(g, validRules()[0], -1, -1) }},
			call{"Put", func(g api.Grid) (api.Grid, api.Errno) { return grid.Put(g, off, 4, -1) }},
			call{"Take", func(g api.Grid) (api.Grid, api.Errno) { return grid.Take(g, off, 4, -1) }},
			call{"Added", func(g api.Grid) (api.Grid, api.Errno) { return grid.Added(g, good) }},
			call{"Added", func(g api.Grid) (api.Grid, api.Errno) { return grid.Added(good, g) }},
		)
		for _, c := range calls {
			if h, e := c.do(g); !isZero(h) || e != api.ErrInvalid {
				t.Errorf("%s of %v = %v, %d", c.name, g, h, e)
			}
		}
		if n, e := grid.Mass(g); n != 0 || e != api.ErrInvalid {
			t.Errorf("Mass(%v) = %d, %d", g, n, e)
		}
		if x, y, e := grid.Momentum(g); x != 0 || y != 0 || e != api.ErrInvalid {
			t.Errorf("Momentum(%v) = %d, %d, %d", g, x, y, e)
		}
		for _, most := range []int{1, 0} {
			if n, e := grid.Period(g, none(), most); n != 0 || e != api.ErrInvalid {
				t.Errorf("Period(%v) = %d, %d", g, n, e)
			}
		}
		for _, x := range [][2]api.Grid{{g, g}, {g, good}, {good, g}} {
			if l, e := grid.Differ(x[0], x[1]); len(l) != 0 || e != api.ErrInvalid {
				t.Errorf("Differ(%v) = %v, %d", x, l, e)
			}
		}
		if n, e := grid.Sum(g); n != 0 || e != api.ErrInvalid {
			t.Errorf("Sum(%v) = %d, %d", g, n, e)
		}
		if s := grid.Format(g); s != "" {
			t.Errorf("Format(%v) = %q", g, s)
		}
	}
}

// TestNewMemory writes over all of a result's memory, and looks whether the argument has changed, its spare capacity included.
func TestNewMemory(t *testing.T) {
	for _, c := range calls() {
		for _, g := range smallGrids() {
			memory := append(slices.Clone(g.Cells), api.Cell{7, 7, 7, 7}, api.Cell{8, 8, 8, 8})
			before := slices.Clone(memory)
			argument := api.Grid{Wide: g.Wide, High: g.High, Cells: memory[:len(g.Cells)]}
			first := done(t)(c.do(argument))
			cells := slices.Clone(first.Cells)
			for i := range cap(first.Cells) {
				first.Cells[:cap(first.Cells)][i] = api.Cell{-1, -1, -1, -1}
			}
			if !slices.Equal(memory, before) {
				t.Fatalf("%s changes or keeps its argument", c.name)
			}
			if second := done(t)(c.do(argument)); !slices.Equal(second.Cells, cells) {
				t.Errorf("%s gives another result after its first one has changed", c.name)
			}
		}
	}
}

func TestOtherArgumentsStay(t *testing.T) {
	a, b := filled(3, 2, 5, 1), filled(3, 2, 5, 2)
	rules := []api.Rule{turn(), shift(3), {Kind: 9}, {Kind: 9}}
	before := slices.Clone(rules)
	done(t)(grid.Run(a, rules[:2], 0, 5))
	done(t)(grid.Undo(a, rules[:2], 0, 5))
	if !slices.Equal(rules, before) {
		t.Errorf("rules became %v", rules)
	}
	done(t)(grid.Added(a, b))
	grid.Differ(a, b)
	grid.Period(a, turn(), 5)
	grid.Sum(a)
	grid.Format(a)
	if !equal(a, filled(3, 2, 5, 1)) || !equal(b, filled(3, 2, 5, 2)) {
		t.Errorf("the grids became %v and %v", a, b)
	}
}
