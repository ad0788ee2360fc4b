package field_test

import (
	"fmt"
	"slices"
	"testing"

	"slipstream/api"
	"slipstream/field"
	"slipstream/grid"
)

func TestMeansOfABlock(t *testing.T) {
	g := read(t, "3 2\n5 0 1 0\n0 2 0 8\n0 0 0 0\n0 0 3 0\n1 1 1 1\n0 0 0 0\n")
	for _, c := range []struct {
		a, b        api.Point
		cells       int
		density     api.Ratio
		east, north api.Ratio
		e           api.Errno
	}{
		{at(0, 0), at(0, 0), 1, api.Ratio{N: 6, D: 1}, api.Ratio{N: 2, D: 3}, api.Ratio{N: 0, D: 1}, api.OK},
		{at(1, 0), at(1, 0), 1, api.Ratio{N: 10, D: 1}, api.Ratio{N: 0, D: 1}, api.Ratio{N: -3, D: 5}, api.OK},
		{at(0, 0), at(1, 0), 2, api.Ratio{N: 8, D: 1}, api.Ratio{N: 1, D: 4}, api.Ratio{N: -3, D: 8}, api.OK},
		{at(0, 0), at(2, 0), 3, api.Ratio{N: 16, D: 3}, api.Ratio{N: 1, D: 4}, api.Ratio{N: -3, D: 8}, api.OK},
		{at(0, 1), at(0, 1), 1, api.Ratio{N: 3, D: 1}, api.Ratio{N: -1, D: 1}, api.Ratio{N: 0, D: 1}, api.OK},
		{at(1, 1), at(1, 1), 1, api.Ratio{N: 4, D: 1}, api.Ratio{N: 0, D: 1}, api.Ratio{N: 0, D: 1}, api.OK},
		{at(0, 0), at(0, 1), 2, api.Ratio{N: 9, D: 2}, api.Ratio{N: 1, D: 9}, api.Ratio{N: 0, D: 1}, api.OK},
		{at(0, 0), at(2, 1), 6, api.Ratio{N: 23, D: 6}, api.Ratio{N: 1, D: 23}, api.Ratio{N: -6, D: 23}, api.OK},
		{at(2, 0), at(2, 1), 2, api.Ratio{N: 0, D: 1}, api.Ratio{}, api.Ratio{}, api.ErrNone},
		{at(2, 1), at(2, 1), 1, api.Ratio{N: 0, D: 1}, api.Ratio{}, api.Ratio{}, api.ErrNone},
	} {
		if n, e := field.Cells(g, c.a, c.b); n != c.cells || e != api.OK {
			t.Errorf("Cells from %v to %v = %d, %d", c.a, c.b, n, e)
		}
		if r, e := field.Density(g, c.a, c.b); r != c.density || e != api.OK {
			t.Errorf("Density from %v to %v = %v, %d", c.a, c.b, r, e)
		}
		if x, y, e := field.Velocity(g, c.a, c.b); x != c.east || y != c.north || e != c.e {
			t.Errorf("Velocity from %v to %v = %v, %v, %d", c.a, c.b, x, y, e)
		}
	}
}

func TestMeansAsWritten(t *testing.T) {
	for _, g := range slices.Concat(grids(), smallGrids()[:200]) {
		for _, k := range blocksOf(g) {
			n := worthOf(g, k, mass)
			if cells, e := field.Cells(g, k.a, k.b); cells != k.size() || e != api.OK {
				t.Fatalf("%d by %d: Cells of %v = %d, %d", g.Wide, g.High, k, cells, e)
			}
			if r, e := field.Density(g, k.a, k.b); r != divided(n, k.size()) || e != api.OK {
				t.Fatalf("%d by %d: Density of %v = %v, %d", g.Wide, g.High, k, r, e)
			}
			var wantX, wantY api.Ratio
			want := api.ErrNone
			if n > 0 {
				wantX, wantY, want = divided(worthOf(g, k, east), n), divided(worthOf(g, k, north), n), api.OK
			}
			if x, y, e := field.Velocity(g, k.a, k.b); x != wantX || y != wantY || e != want {
				t.Fatalf("%d by %d: Velocity of %v = %v, %v, %d, want %v, %v, %d", g.Wide, g.High, k, x, y, e, wantX, wantY, want)
			}
		}
	}
}

// TestBlockErrors gives corners that are not on the grid, or the wrong way round.
func TestBlockErrors(t *testing.T) {
	check := func(g api.Grid, k corners, want api.Errno) {
		t.Helper()
		if n, e := field.Cells(g, k.a, k.b); n != 0 || e != want {
			t.Errorf("Cells of %v = %d, %d, want %d", k, n, e, want)
		}
		if r, e := field.Density(g, k.a, k.b); r != (api.Ratio{}) || e != want {
			t.Errorf("Density of %v = %v, %d, want %d", k, r, e, want)
		}
		if x, y, e := field.Velocity(g, k.a, k.b); x != (api.Ratio{}) || y != (api.Ratio{}) || e != want {
			t.Errorf("Velocity of %v = %v, %v, %d, want %d", k, x, y, e, want)
		}
		if n, e := field.Circulation(g, k.a, k.b); n != 0 || e != want {
			t.Errorf("Circulation of %v = %d, %d, want %d", k, n, e, want)
		}
	}
	for _, g := range []api.Grid{filled(3, 2, 1, 9, 1), empty(3, 2)} {
		wrong := []corners{{at(1, 0), at(0, 0)}, {at(0, 1), at(0, 0)}, {at(1, 0), at(0, 1)}, {at(0, 1), at(1, 0)}, {at(2, 1), at(0, 0)}}
		for _, p := range badPoints(g) {
			wrong = append(wrong, corners{p, p}, corners{at(0, 0), p}, corners{at(2, 1), p}, corners{p, at(0, 0)}, corners{p, at(2, 1)})
		}
		for _, k := range wrong {
			check(g, k, api.ErrRange)
		}
	}
	for _, g := range invalidGrids() {
		check(g, corners{at(0, 0), at(0, 0)}, api.ErrInvalid)
		check(g, corners{at(1, 1), at(-1, 0)}, api.ErrInvalid)
	}
}

// sized returns all blocks with two sides, in the order of indexes.
func sized(g api.Grid, wide, high int) []corners {
	var l []corners
	for i := range g.Cells {
		a := pointOf(g, i)
		if a.X+wide <= g.Wide && a.Y+high <= g.High {
			l = append(l, corners{a, at(a.X+wide-1, a.Y+high-1)})
		}
	}
	return l
}

func TestDensest(t *testing.T) {
	g := read(t, "3 3\n1 0 0 0\n0 2 0 0\n0 0 2 0\n0 0 0 2\n0 0 0 0\n1 0 0 1\n0 0 0 0\n0 1 1 0\n0 0 0 0\n")
	for _, c := range []struct {
		wide, high int
		p          api.Point
	}{{1, 1, at(1, 0)}, {2, 1, at(1, 0)}, {3, 1, at(0, 0)}, {1, 2, at(2, 0)}, {1, 3, at(1, 0)}, {2, 2, at(1, 0)}, {2, 3, at(1, 0)}, {3, 3, at(0, 0)}, {3, 2, at(0, 0)}} {
		if p, e := field.Densest(g, c.wide, c.high); p != c.p || e != api.OK {
			t.Errorf("Densest of %d by %d = %v, %d, want %v", c.wide, c.high, p, e, c.p)
		}
	}
}

func TestDensestAsWritten(t *testing.T) {
	for _, g := range slices.Concat(grids(), smallGrids()) {
		for _, wide := range someBelow(g.Wide + 1)[1:] {
			for _, high := range someBelow(g.High + 1)[1:] {
				if wide*high > 300 {
					continue
				}
				l := sized(g, wide, high)
				best := l[0]
				for _, k := range l {
					if worthOf(g, k, mass) > worthOf(g, best, mass) {
						best = k
					}
				}
				if p, e := field.Densest(g, wide, high); p != best.a || e != api.OK {
					t.Fatalf("%v: Densest of %d by %d = %v, %d, want %v", g, wide, high, p, e, best.a)
				}
			}
		}
	}
}

func TestProfile(t *testing.T) {
	for _, g := range slices.Concat(grids(), smallGrids()) {
		var columns, rows []int
		for x := range g.Wide {
			columns = append(columns, worthOf(g, corners{at(x, 0), at(x, g.High-1)}, mass))
		}
		for y := range g.High {
			rows = append(rows, worthOf(g, corners{at(0, y), at(g.Wide-1, y)}, mass))
		}
		for axis, want := range [][]int{columns, rows} {
			l, e := field.Profile(g, axis)
			if !slices.Equal(l, want) || e != api.OK {
				t.Fatalf("Profile of the axis %d = %v, %d, want %v", axis, l, e, want)
			}
			total := 0
			for _, n := range l {
				total += n
			}
			if total != done[int](t)(grid.Mass(g)) {
				t.Fatalf("Profile of the axis %d adds up to %d", axis, total)
			}
		}
	}
}

// TestTable goes through all sides, also those that do not divide the grid's.
func TestTable(t *testing.T) {
	for _, g := range slices.Concat(grids(), smallGrids()[:300]) {
		for wide := 1; wide <= g.Wide; wide++ {
			for high := 1; high <= g.High; high++ {
				var want []int
				wantError := api.ErrSize
				if g.Wide%wide == 0 && g.High%high == 0 {
					wantError = api.OK
					want = make([]int, g.Wide/wide*(g.High/high))
					for i := range g.Cells {
						p := pointOf(g, i)
						want[p.X/wide+g.Wide/wide*(p.Y/high)] += worthOf(api.Grid{Wide: 1, High: 1, Cells: g.Cells[i : i+1]}, corners{}, mass)
					}
				}
				if l, e := field.Table(g, wide, high); !slices.Equal(l, want) || e != wantError {
					t.Fatalf("%d by %d: Table of %d by %d = %v, %d, want %v, %d", g.Wide, g.High, wide, high, l, e, want, wantError)
				}
			}
		}
	}
}

// TestTableIsTheGrid: the mean of a table's densities, weighted by cells, is the density of the grid.
func TestTableIsTheGrid(t *testing.T) {
	tables := 0
	for _, g := range slices.Concat(grids(), smallGrids()) {
		for wide := 1; wide <= g.Wide; wide++ {
			for high := 1; high <= g.High; high++ {
				masses, e := field.Table(g, wide, high)
				if e != api.OK || len(masses) > 100 {
					continue
				}
				var l []api.Ratio
				for _, n := range masses {
					l = append(l, divided(n, wide*high))
				}
				r := done[api.Ratio](t)(field.Weighted(l, slices.Repeat([]int{wide * high}, len(l))))
				if k := whole(g); r != done[api.Ratio](t)(field.Density(g, k.a, k.b)) {
					t.Fatalf("%d by %d: the mean of blocks of %d by %d is %v", g.Wide, g.High, wide, high, r)
				}
				tables++
			}
		}
	}
	if tables < 1000 {
		t.Errorf("only %d tables", tables)
	}
}

// TestSideErrors gives sides that are not from 1 to the grid's; those of a table do not divide them either.
func TestSideErrors(t *testing.T) {
	check := func(g api.Grid, wide, high int, want api.Errno) {
		t.Helper()
		name := fmt.Sprintf("%d by %d of %d by %d", wide, high, g.Wide, g.High)
		if p, e := field.Densest(g, wide, high); p != (api.Point{}) || e != want {
			t.Errorf("Densest of %s = %v, %d, want %d", name, p, e, want)
		}
		if l, e := field.Table(g, wide, high); len(l) != 0 || e != want {
			t.Errorf("Table of %s = %v, %d, want %d", name, l, e, want)
		}
	}
	g := filled(6, 4, 1, 9, 1)
	for _, n := range append(badNumbers(), 0, 7) {
		for _, other := range []int{1, 2, 3, 4, 0} {
			check(g, n, other, api.ErrRange)
		}
	}
	for _, n := range append(badNumbers(), 0, 5, 6) {
		for _, other := range []int{1, 4, 5, 6, 0} {
			check(g, other, n, api.ErrRange)
		}
	}
	for _, g := range invalidGrids() {
		check(g, 1, 1, api.ErrInvalid)
		check(g, 0, -1, api.ErrInvalid)
	}
}

// TestAxisErrors gives numbers that are no axes.
func TestAxisErrors(t *testing.T) {
	check := func(g api.Grid, axis int, want api.Errno) {
		t.Helper()
		if l, e := field.Profile(g, axis); len(l) != 0 || e != want {
			t.Errorf("Profile of the axis %d = %v, %d, want %d", axis, l, e, want)
		}
		if forth, back, e := field.Crossing(g, axis, 0); forth != 0 || back != 0 || e != want {
			t.Errorf("Crossing of the axis %d = %d, %d, %d, want %d", axis, forth, back, e, want)
		}
	}
	for _, axis := range append(badNumbers(), 2, 3) {
		check(filled(3, 4, 1, 9, 1), axis, api.ErrRange)
	}
	for _, g := range invalidGrids() {
		for _, axis := range []int{0, 1, 2, -1} {
			check(g, axis, api.ErrInvalid)
		}
	}
}
