package field_test

import (
	"slices"
	"testing"

	"slipstream/api"
	"slipstream/field"
)

// round goes round the loop of a block and adds up the momentum along it.
func round(g api.Grid, k corners) int {
	total := 0
	for x := k.a.X; x <= k.b.X; x++ {
		lowest, highest := g.Cells[x+g.Wide*k.a.Y], g.Cells[x+g.Wide*k.b.Y]
		total += lowest[api.East] - lowest[api.West] - highest[api.East] + highest[api.West]
	}
	for y := k.a.Y; y <= k.b.Y; y++ {
		first, last := g.Cells[k.a.X+g.Wide*y], g.Cells[k.b.X+g.Wide*y]
		total += last[api.North] - last[api.South] - first[api.North] + first[api.South]
	}
	return total
}

func TestCirculation(t *testing.T) {
	two := read(t, "2 2\n1 0 0 0\n0 1 0 0\n0 0 0 0\n0 0 0 0\n")
	three := read(t, "3 3\n1 0 0 0\n2 0 0 0\n4 8 0 0\n0 0 0 16\n500 500 3 3\n0 32 0 0\n0 0 64 128\n0 0 256 0\n0 1000 0 0\n")
	for _, c := range []struct {
		g    api.Grid
		a, b api.Point
		n    int
	}{
		{two, at(0, 0), at(1, 1), 2}, {two, at(0, 0), at(0, 1), 1}, {two, at(1, 0), at(1, 1), 0}, {two, at(0, 0), at(1, 0), 1}, {two, at(0, 1), at(1, 1), 0},
		{three, at(0, 0), at(2, 2), 1 + 2 + 4 + 8 + 32 + 1000 + 256 + 64 + 128 + 16}, {three, at(0, 0), at(0, 0), 0}, {three, at(1, 1), at(1, 1), 0},
		{three, at(0, 0), at(1, 1), 1 + 2 + 497 + 16 - 497}, {three, at(0, 0), at(2, 0), 8}, {three, at(2, 0), at(2, 2), 4}, {three, at(0, 1), at(2, 1), 32 + 16},
	} {
		if n, e := field.Circulation(c.g, c.a, c.b); n != c.n || e != api.OK {
			t.Errorf("Circulation from %v to %v = %d, %d, want %d", c.a, c.b, n, e, c.n)
		}
	}
}

func TestCirculationAsWritten(t *testing.T) {
	for _, g := range slices.Concat(grids(), smallGrids()[:500]) {
		for _, k := range blocksOf(g) {
			if n, e := field.Circulation(g, k.a, k.b); n != round(g, k) || e != api.OK {
				t.Fatalf("%d by %d: Circulation of %v = %d, %d, want %d", g.Wide, g.High, k, n, e, round(g, k))
			}
		}
	}
}

// TestLoopsAddUp divides blocks at each of their rows and columns, which both parts have.
func TestLoopsAddUp(t *testing.T) {
	around := func(g api.Grid, a, b api.Point) int { return done[int](t)(field.Circulation(g, a, b)) }
	one := func(g api.Grid, x, y int, worth [4]int) int { return worthOf(g, corners{at(x, y), at(x, y)}, worth) }
	for _, g := range slices.Concat(grids(), smallGrids()[:100]) {
		for _, k := range blocksOf(g) {
			a, b := k.a, k.b
			for _, y := range []int{a.Y, (a.Y + b.Y) / 2, b.Y} {
				both := around(g, a, at(b.X, y)) + around(g, at(a.X, y), b)
				if n := around(g, a, b); n != both-one(g, b.X, y, north)+one(g, a.X, y, north) {
					t.Fatalf("%v: the circulations below and above the row %d are %d, that of %v is %d", g, y, both, k, n)
				}
			}
			for _, x := range []int{a.X, (a.X + b.X) / 2, b.X} {
				both := around(g, a, at(x, b.Y)) + around(g, at(x, a.Y), b)
				if n := around(g, a, b); n != both-one(g, x, a.Y, east)+one(g, x, b.Y, east) {
					t.Fatalf("%v: the circulations before and behind the column %d are %d, that of %v is %d", g, x, both, k, n)
				}
			}
		}
	}
}

func TestAllAlike(t *testing.T) {
	for _, s := range sides() {
		g := api.Grid{Wide: s[0], High: s[1], Cells: slices.Repeat([]api.Cell{{7, 100, 3, 9}}, s[0]*s[1])}
		for _, k := range blocksOf(g) {
			if n, e := field.Circulation(g, k.a, k.b); n != 0 || e != api.OK {
				t.Errorf("%d by %d: Circulation of %v = %d, %d", g.Wide, g.High, k, n, e)
			}
		}
		if p, n, e := field.Vortex(g, min(s[0], s[1])); p != at(0, 0) || n != 0 || e != api.OK {
			t.Errorf("%d by %d: Vortex = %v, %d, %d", g.Wide, g.High, p, n, e)
		}
	}
}

// TestVortex: whirls one way and the other one, of which the first of the fastest is sought.
func TestVortex(t *testing.T) {
	for _, c := range []struct {
		g    api.Grid
		side int
		p    api.Point
		n    int
	}{
		{drawn("<<..", ">^..", "....", "...."), 2, at(0, 2), 4},
		{drawn(">v..", "^<..", "....", "...."), 2, at(0, 2), -4},
		{drawn("v<>v", ">^^<"), 2, at(0, 0), 4},
		{drawn(">vv<", "^<>^"), 2, at(0, 0), -4},
		{drawn("v<", ">^", ">v", "^<"), 2, at(0, 0), -4},
		{drawn(">v", "^<", "v<", ">^"), 2, at(0, 0), 4},
		{drawn("...", "...", "..^"), 2, at(1, 0), 1},
		{drawn("...", ".v.", "..."), 2, at(0, 0), -1},
		{drawn("<<<", "v.^", ">>>"), 3, at(0, 0), 8},
		{drawn("<<<", "v.^", ">>>"), 1, at(0, 0), 0},
		{drawn("..", ".."), 2, at(0, 0), 0},
	} {
		if p, n, e := field.Vortex(c.g, c.side); p != c.p || n != c.n || e != api.OK {
			t.Errorf("%v: Vortex of %d = %v, %d, %d, want %v, %d", c.g, c.side, p, n, e, c.p, c.n)
		}
	}
}

func TestVortexAsWritten(t *testing.T) {
	positive, negative := 0, 0
	for _, g := range slices.Concat(grids(), smallGrids()) {
		for side := 1; side <= min(g.Wide, g.High); side++ {
			l := sized(g, side, side)
			best := l[0]
			for _, k := range l {
				if n, most := round(g, k), round(g, best); n*n > most*most {
					best = k
				}
			}
			want := round(g, best)
			if p, n, e := field.Vortex(g, side); p != best.a || n != want || e != api.OK {
				t.Fatalf("%v: Vortex of %d = %v, %d, %d, want %v, %d", g, side, p, n, e, best.a, want)
			}
			if want > 0 {
				positive++
			}
			if want < 0 {
				negative++
			}
		}
	}
	if positive < 500 || negative < 500 {
		t.Errorf("%d go counterclockwise, %d clockwise", positive, negative)
	}
}

func TestVortexErrors(t *testing.T) {
	for _, g := range []api.Grid{filled(6, 4, 1, 9, 1), filled(4, 6, 1, 9, 2)} {
		for _, side := range append(badNumbers(), 0, 5, 6, 7) {
			if p, n, e := field.Vortex(g, side); p != (api.Point{}) || n != 0 || e != api.ErrRange {
				t.Errorf("Vortex of %d = %v, %d, %d", side, p, n, e)
			}
		}
	}
	for _, g := range invalidGrids() {
		for _, side := range []int{1, 0} {
			if p, n, e := field.Vortex(g, side); p != (api.Point{}) || n != 0 || e != api.ErrInvalid {
				t.Errorf("%v: Vortex = %v, %d, %d", g, p, n, e)
			}
		}
	}
}
