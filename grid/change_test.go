package grid_test

import (
	"math"
	"slices"
	"testing"

	"slipstream/api"
	"slipstream/grid"
)

func TestPutAndTake(t *testing.T) {
	g := filled(4, 3, 6, 2)
	for i, c := range g.Cells {
		p := api.Point{X: i % 4, Y: i / 4}
		for dir := range c {
			for _, n := range []int{0, 1, 77} {
				want := api.Grid{Wide: 4, High: 3, Cells: slices.Clone(g.Cells)}
				want.Cells[i][dir] += n
				if h, e := grid.Put(g, p, dir, n); !equal(h, want) || e != api.OK {
					t.Errorf("Put(%v, %d, %d) = %v, %d", p, dir, n, h, e)
				}
				if h, e := grid.Take(want, p, dir, n); !equal(h, g) || e != api.OK {
					t.Errorf("Take(%v, %d, %d) = %v, %d", p, dir, n, h, e)
				}
			}
			if h, e := grid.Take(g, p, dir, c[dir]); e != api.OK || h.Cells[i][dir] != 0 {
				t.Errorf("Take(%v, %d, %d) = %v, %d", p, dir, c[dir], h, e)
			}
			for _, n := range []int{c[dir] + 1, api.MaxMass} {
				if h, e := grid.Take(g, p, dir, n); !isZero(h) || e != api.ErrNone {
					t.Errorf("Take(%v, %d, %d) = %v, %d", p, dir, n, h, e)
				}
			}
		}
	}
}

func TestPutLimit(t *testing.T) {
	g := put(t, put(t, filled(2, 2, 1, 0), 0, 0, api.East, 3), 1, 1, api.South, 999999990)
	for _, x := range []struct {
		n int
		e api.Errno
	}{{7, api.OK}, {8, api.ErrLimit}, {999999997, api.ErrLimit}, {api.MaxMass, api.ErrLimit}, {api.MaxMass + 1, api.ErrRange}} {
		h, e := grid.Put(g, api.Point{X: 0, Y: 1}, api.West, x.n)
		if e != x.e || e != api.OK && !isZero(h) || e == api.OK && !grid.Valid(h) {
			t.Errorf("Put of %d = %v, %d, want %d", x.n, h, e, x.e)
		}
	}
	full := put(t, filled(1, 1, 1, 0), 0, 0, api.North, api.MaxMass)
	if h, e := grid.Put(full, api.Point{}, api.South, 0); e != api.OK || !equal(h, full) {
		t.Errorf("Put of none = %v, %d", h, e)
	}
	if h, e := grid.Put(full, api.Point{}, api.North, 1); e != api.ErrLimit || !isZero(h) {
		t.Errorf("Put of one = %v, %d", h, e)
	}
	if h, e := grid.Take(full, api.Point{}, api.North, api.MaxMass); e != api.OK || !equal(h, filled(1, 1, 1, 0)) {
		t.Errorf("Take of all = %v, %d", h, e)
	}
}

func TestPutAndTakeErrors(t *testing.T) {
	g := put(t, filled(3, 2, 4, 1), 1, 1, api.East, 999999000)
	const most, least = math.MaxInt, math.MinInt
	for _, x := range []struct {
		p      api.Point
		dir, n int
	}{
		{api.Point{X: -1, Y: 0}, 0, 1}, {api.Point{X: 3, Y: 0}, 0, 1}, {api.Point{X: 0, Y: -1}, 0, 1}, {api.Point{X: 0, Y: 2}, 0, 1},
		{api.Point{X: 2, Y: 2}, 0, 1}, {api.Point{X: -1, Y: 1}, 0, 1}, {api.Point{X: 3, Y: -1}, 0, 1},
		{api.Point{X: most, Y: 0}, 0, 1}, {api.Point{X: 0, Y: most}, 0, 1}, {api.Point{X: least, Y: least}, 0, 1}, {api.Point{X: 3, Y: most}, 0, 1},
		{api.Point{}, -1, 1}, {api.Point{}, 4, 1}, {api.Point{}, most, 1}, {api.Point{}, least, 1},
		{api.Point{}, 0, -1}, {api.Point{}, 0, api.MaxMass + 1}, {api.Point{}, 0, most}, {api.Point{}, 0, least},
		// These would be ErrLimit or ErrNone as well.
		{api.Point{X: 3}, 0, api.MaxMass}, {api.Point{}, 4, api.MaxMass}, {api.Point{}, -1, 0},
	} {
		if h, e := grid.Put(g, x.p, x.dir, x.n); !isZero(h) || e != api.ErrRange {
			t.Errorf("Put(%v, %d, %d) = %v, %d", x.p, x.dir, x.n, h, e)
		}
		if h, e := grid.Take(g, x.p, x.dir, x.n); !isZero(h) || e != api.ErrRange {
			t.Errorf("Take(%v, %d, %d) = %v, %d", x.p, x.dir, x.n, h, e)
		}
	}
}

func TestShifted(t *testing.T) {
	for _, g := range validGrids() {
		for _, s := range [][2]int{{0, 0}, {1, 0}, {0, 1}, {-1, -1}, {2, -3}, {64, 64}, {-65, 130}, {math.MaxInt, math.MinInt}, {math.MinInt, math.MaxInt}} {
			h, e := grid.Shifted(g, s[0], s[1])
			if e != api.OK || h.Wide != g.Wide || h.High != g.High || len(h.Cells) != len(g.Cells) {
				t.Fatalf("Shifted(%v) = %v, %d", s, h, e)
			}
			x, y := mod(s[0]%g.Wide, g.Wide), mod(s[1]%g.High, g.High)
			for i, c := range g.Cells {
				if at(h, i%g.Wide+x, i/g.Wide+y) != c {
					t.Fatalf("Shifted(%v) of %d by %d: the cell %d is elsewhere", s, g.Wide, g.High, i)
				}
			}
		}
	}
}

func TestTurnedAndMirrored(t *testing.T) {
	for _, g := range validGrids() {
		h := done(t)(grid.Turned(g))
		m := done(t)(grid.Mirrored(g))
		if h.Wide != g.High || h.High != g.Wide || m.Wide != g.Wide || m.High != g.High {
			t.Fatalf("%d by %d turned is %d by %d, mirrored %d by %d", g.Wide, g.High, h.Wide, h.High, m.Wide, m.High)
		}
		for i, c := range g.Cells {
			x, y := i%g.Wide, i/g.Wide
			if h.Cells[g.High-1-y+g.High*x] != (api.Cell{c[3], c[0], c[1], c[2]}) {
				t.Fatalf("%d by %d turned: the cell %d is another one", g.Wide, g.High, i)
			}
			if m.Cells[g.Wide-1-x+g.Wide*y] != (api.Cell{c[2], c[1], c[0], c[3]}) {
				t.Fatalf("%d by %d mirrored: the cell %d is another one", g.Wide, g.High, i)
			}
		}
		for range 3 {
			h = done(t)(grid.Turned(h))
		}
		if !equal(h, g) || !equal(done(t)(grid.Mirrored(m)), g) {
			t.Errorf("%d by %d turned four times, or mirrored twice, is another grid", g.Wide, g.High)
		}
	}
}

// TestStepsAndMovesMayBeExchanged: RShift tells east-west from north-south, so it goes with Shifted alone.
func TestStepsAndMovesMayBeExchanged(t *testing.T) {
	shifted := func(g api.Grid) (api.Grid, api.Errno) { return grid.Shifted(g, 2, -1) }
	for _, g := range validGrids() {
		for _, l := range validRules() {
			moves := []func(api.Grid) (api.Grid, api.Errno){shifted}
			if !slices.ContainsFunc(l, func(r api.Rule) bool { return r.Kind == api.RShift }) {
				moves = append(moves, grid.Turned, grid.Mirrored)
			}
			for i, move := range moves {
				first := done(t)(grid.Step(done(t)(move(g)), l, 1))
				second := done(t)(move(done(t)(grid.Step(g, l, 1))))
				if !equal(first, second) {
					t.Errorf("%d by %d with %v: the move %d and a step may not be exchanged", g.Wide, g.High, l, i)
				}
			}
		}
	}
}

func TestAdded(t *testing.T) {
	for i, s := range sides() {
		a, b := filled(s[0], s[1], 50, uint64(i)), filled(s[0], s[1], 90, uint64(i)+7)
		h, e := grid.Added(a, b)
		if e != api.OK || h.Wide != s[0] || h.High != s[1] || len(h.Cells) != len(a.Cells) {
			t.Fatalf("Added = %v, %d", h, e)
		}
		for j, c := range h.Cells {
			for dir, n := range c {
				if n != a.Cells[j][dir]+b.Cells[j][dir] {
					t.Fatalf("Added: %v and %v is %v", a.Cells[j], b.Cells[j], c)
				}
			}
		}
	}
}

func TestAddedErrors(t *testing.T) {
	grids := func(cells ...api.Cell) api.Grid {
		return api.Grid{Wide: len(cells), High: 1, Cells: cells}
	}
	full := grids(api.Cell{}, api.Cell{api.MaxMass})
	for _, x := range []struct {
		a, b api.Grid
		e    api.Errno
	}{
		{full, grids(api.Cell{}, api.Cell{}), api.OK},
		{grids(api.Cell{1}, api.Cell{2}), grids(api.Cell{}, api.Cell{0, 0, 999999997}), api.OK},
		{full, grids(api.Cell{}, api.Cell{0, 0, 0, 1}), api.ErrLimit},
		{full, grids(api.Cell{1}, api.Cell{}), api.ErrLimit},
		{full, full, api.ErrLimit},
		{grids(api.Cell{1}, api.Cell{2}), grids(api.Cell{}, api.Cell{0, 0, 999999998}), api.ErrLimit},
		{full, grids(api.Cell{}, api.Cell{}, api.Cell{}), api.ErrSize},
		{full, grids(api.Cell{api.MaxMass}), api.ErrSize},
		{full, api.Grid{Wide: 1, High: 2, Cells: []api.Cell{{1}, {2}}}, api.ErrSize},
		{filled(2, 3, 4, 1), filled(3, 2, 4, 1), api.ErrSize},
		{filled(2, 3, 4, 1), filled(2, 4, 4, 1), api.ErrSize},
		{filled(2, 3, 4, 1), filled(1, 3, 4, 1), api.ErrSize},
	} {
		for _, y := range [][2]api.Grid{{x.a, x.b}, {x.b, x.a}} {
			h, e := grid.Added(y[0], y[1])
			if e != x.e || e != api.OK && !isZero(h) || e == api.OK && !grid.Valid(h) {
				t.Errorf("Added(%v) = %v, %d, want %d", y, h, e, x.e)
			}
			if l, e := grid.Differ(y[0], y[1]); x.e == api.ErrSize && (e != api.ErrSize || len(l) != 0) {
				t.Errorf("Differ(%v) = %v, %d", y, l, e)
			}
		}
	}
}

func TestDiffer(t *testing.T) {
	for i, s := range sides() {
		a, b := filled(s[0], s[1], 2, uint64(i)), filled(s[0], s[1], 2, uint64(i)+9)
		var want []int
		for j := range a.Cells {
			if a.Cells[j] != b.Cells[j] {
				want = append(want, j)
			}
		}
		if l, e := grid.Differ(a, b); !slices.Equal(l, want) || e != api.OK {
			t.Errorf("Differ = %v, %d, want %v", l, e, want)
		}
		if l, e := grid.Differ(a, a); len(l) != 0 || e != api.OK {
			t.Errorf("Differ of one grid = %v, %d", l, e)
		}
	}
	a := filled(5, 4, 3, 1)
	for i := range a.Cells {
		for dir := range 4 {
			b := filled(5, 4, 3, 1)
			b.Cells[i][dir]++
			if l, e := grid.Differ(a, b); !slices.Equal(l, []int{i}) || e != api.OK {
				t.Errorf("Differ in the cell %d = %v, %d", i, l, e)
			}
		}
	}
}
