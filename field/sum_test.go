package field_test

import (
	"math"
	"math/big"
	"slices"
	"testing"

	"slipstream/api"
	"slipstream/cell"
	"slipstream/field"
	"slipstream/grid"
)

func TestCrossing(t *testing.T) {
	g := read(t, "3 2\n1 2 4 8\n10 20 40 80\n100 200 400 800\n3 0 0 0\n0 0 5 0\n0 7 0 9\n")
	for _, c := range []struct{ axis, at, forth, back int }{
		{0, 0, 100, 4}, {0, 1, 4, 45}, {0, 2, 10, 400}, {1, 0, 7, 888}, {1, 1, 222, 9},
	} {
		if forth, back, e := field.Crossing(g, c.axis, c.at); forth != c.forth || back != c.back || e != api.OK {
			t.Errorf("Crossing of the line %d of the axis %d = %d, %d, %d", c.at, c.axis, forth, back, e)
		}
	}
	one := read(t, "1 1\n1 2 4 8\n")
	for axis := range 2 {
		if forth, back, e := field.Crossing(one, axis, 0); forth != 1+axis || back != 4+4*axis || e != api.OK {
			t.Errorf("Crossing of the axis %d = %d, %d, %d", axis, forth, back, e)
		}
	}
}

// TestCrossingAsStreamed puts each cell's particles alone on a grid, and looks where they come. With less than three columns or rows that does not tell which line they crossed.
func TestCrossingAsStreamed(t *testing.T) {
	for _, g := range smallGrids()[:300] {
		if g.Wide < 3 || g.High < 3 {
			continue
		}
		forths, backs := [2][6]int{}, [2][6]int{}
		for i, c := range g.Cells {
			from := pointOf(g, i)
			for dir, n := range c {
				alone := empty(g.Wide, g.High)
				alone.Cells[i][dir] = 1
				after := done[api.Grid](t)(grid.Stream(alone))
				to := pointOf(g, slices.IndexFunc(after.Cells, func(c api.Cell) bool { return c != api.Cell{} }))
				switch to {
				case at((from.X+1)%g.Wide, from.Y):
					forths[0][to.X] += n
				case at((from.X+g.Wide-1)%g.Wide, from.Y):
					backs[0][from.X] += n
				case at(from.X, (from.Y+1)%g.High):
					forths[1][to.Y] += n
				default:
					backs[1][from.Y] += n
				}
			}
		}
		for axis, side := range []int{g.Wide, g.High} {
			for line := range side {
				if forth, back, e := field.Crossing(g, axis, line); forth != forths[axis][line] || back != backs[axis][line] || e != api.OK {
					t.Fatalf("%v: Crossing of the line %d of the axis %d = %d, %d, %d, want %d, %d", g, line, axis, forth, back, e, forths[axis][line], backs[axis][line])
				}
			}
		}
	}
}

// TestCrossingsAddUp to the momentum of the grid.
func TestCrossingsAddUp(t *testing.T) {
	for _, g := range slices.Concat(grids(), smallGrids()) {
		x, y, _ := grid.Momentum(g)
		for axis, want := range []int{x, y} {
			sum := 0
			for line := range []int{g.Wide, g.High}[axis] {
				forth, back, e := field.Crossing(g, axis, line)
				if e != api.OK {
					t.Fatalf("error %d", e)
				}
				sum += forth - back
			}
			if sum != want {
				t.Fatalf("%v: crossings of the axis %d add up to %d, want %d", g, axis, sum, want)
			}
		}
	}
}

func TestCrossingErrors(t *testing.T) {
	g := filled(3, 5, 1, 9, 1)
	for axis, side := range []int{3, 5} {
		for _, line := range append(badNumbers(), side, side+1, 15) {
			if forth, back, e := field.Crossing(g, axis, line); forth != 0 || back != 0 || e != api.ErrRange {
				t.Errorf("Crossing of the line %d of the axis %d = %d, %d, %d", line, axis, forth, back, e)
			}
		}
	}
	for _, g := range invalidGrids() {
		for _, line := range []int{0, -1, math.MaxInt} {
			if forth, back, e := field.Crossing(g, 0, line); forth != 0 || back != 0 || e != api.ErrInvalid {
				t.Errorf("%v: Crossing = %d, %d, %d", g, forth, back, e)
			}
		}
	}
}

// parity adds up the masses of cells by x + y.
func parity(g api.Grid) [2]int {
	var masses [2]int
	for i, c := range g.Cells {
		p := pointOf(g, i)
		masses[(p.X+p.Y)%2] += c[0] + c[1] + c[2] + c[3]
	}
	return masses
}

func TestParity(t *testing.T) {
	for _, c := range []struct {
		text      string
		even, odd int
	}{
		{"1 1\n1 2 3 4\n", 10, 0}, {"2 1\n1 0 0 0\n0 2 0 0\n", 1, 2}, {"1 2\n0 0 1 0\n0 0 0 2\n", 1, 2}, {"3 2\n1 0 0 0\n2 0 0 0\n4 0 0 0\n8 0 0 0\n16 0 0 0\n32 0 0 0\n", 21, 42},
	} {
		if even, odd, e := field.Parity(read(t, c.text)); even != c.even || odd != c.odd || e != api.OK {
			t.Errorf("Parity = %d, %d, %d, want %d, %d", even, odd, e, c.even, c.odd)
		}
	}
	for _, g := range slices.Concat(grids(), smallGrids()) {
		if even, odd, e := field.Parity(g); [2]int{even, odd} != parity(g) || e != api.OK {
			t.Fatalf("%v: Parity = %d, %d, %d, want %v", g, even, odd, e, parity(g))
		}
	}
}

// TestParityChangesPlaces with each step of a grid with even sides.
func TestParityChangesPlaces(t *testing.T) {
	rules := done[[]api.Rule](t)(cell.Parse("turn shift:3 none"))
	seen := 0
	for _, g := range smallGrids() {
		if g.Wide%2 != 0 || g.High%2 != 0 {
			continue
		}
		seen++
		for step := range 4 {
			even, odd, _ := field.Parity(g)
			g = done[api.Grid](t)(grid.Step(g, rules, step))
			if x, y, e := field.Parity(g); x != odd || y != even || e != api.OK {
				t.Fatalf("Parity = %d, %d, %d, a step before %d, %d", x, y, e, even, odd)
			}
		}
	}
	if seen < 100 {
		t.Errorf("only %d grids", seen)
	}
}

func TestRows(t *testing.T) {
	for _, g := range slices.Concat(grids(), smallGrids()) {
		var want []int
		for y := range g.High {
			want = append(want, worthOf(g, corners{at(0, y), at(g.Wide-1, y)}, east))
		}
		if l, e := field.Rows(g); !slices.Equal(l, want) || e != api.OK {
			t.Fatalf("%v: Rows = %v, %d, want %v", g, l, e, want)
		}
	}
}

// spread is Spread in fractions.
func spread(g api.Grid) *big.Rat {
	n := int64(len(g.Cells))
	mean := big.NewRat(int64(worthOf(g, whole(g), mass)), n)
	sum := new(big.Rat)
	for _, c := range g.Cells {
		difference := new(big.Rat).Sub(big.NewRat(int64(c[0]+c[1]+c[2]+c[3]), 1), mean)
		sum.Add(sum, difference.Abs(difference))
	}
	return sum.Mul(sum, big.NewRat(1, n))
}

func TestSpread(t *testing.T) {
	for _, c := range []struct {
		text string
		want api.Ratio
	}{
		{"1 1\n1 2 3 4\n", api.Ratio{N: 0, D: 1}}, {"2 2\n0 0 0 0\n0 0 0 0\n0 0 0 0\n0 0 0 0\n", api.Ratio{N: 0, D: 1}}, {"2 1\n5 0 0 0\n2 1 1 1\n", api.Ratio{N: 0, D: 1}},
		{"2 1\n5 0 0 0\n2 0 0 0\n", api.Ratio{N: 3, D: 2}}, {"3 1\n1 0 0 0\n0 0 0 0\n0 0 0 0\n", api.Ratio{N: 4, D: 9}}, {"1 4\n1 0 1 0\n0 2 2 0\n0 0 0 0\n1 1 0 0\n", api.Ratio{N: 1, D: 1}},
		{"2 1\n1000000000 0 0 0\n0 0 0 0\n", api.Ratio{N: 500000000, D: 1}}, {"3 1\n0 0 0 0\n0 0 999999999 0\n0 0 0 1\n", api.Ratio{N: 3999999994, D: 9}},
	} {
		if r, e := field.Spread(read(t, c.text)); r != c.want || e != api.OK {
			t.Errorf("Spread = %v, %d, want %v", r, e, c.want)
		}
	}
	for _, g := range slices.Concat(grids(), smallGrids()) {
		r, e := field.Spread(g)
		if r != ratioOf(spread(g)) || e != api.OK {
			t.Fatalf("%v: Spread = %v, %d, want %v", g, r, e, spread(g))
		}
		differs := func(c api.Cell) bool {
			return c[0]+c[1]+c[2]+c[3] != g.Cells[0][0]+g.Cells[0][1]+g.Cells[0][2]+g.Cells[0][3]
		}
		if (r == api.Ratio{D: 1}) == slices.ContainsFunc(g.Cells, differs) {
			t.Fatalf("%v: Spread = %v", g, r)
		}
	}
}

func TestSumErrors(t *testing.T) {
	for _, g := range invalidGrids() {
		if even, odd, e := field.Parity(g); even != 0 || odd != 0 || e != api.ErrInvalid {
			t.Errorf("%v: Parity = %d, %d, %d", g, even, odd, e)
		}
		if l, e := field.Rows(g); len(l) != 0 || e != api.ErrInvalid {
			t.Errorf("%v: Rows = %v, %d", g, l, e)
		}
		if r, e := field.Spread(g); r != (api.Ratio{}) || e != api.ErrInvalid {
			t.Errorf("%v: Spread = %v, %d", g, r, e)
		}
	}
}

func TestWeighted(t *testing.T) {
	const m = api.MaxMass
	many := func(r api.Ratio, n int) []api.Ratio { return slices.Repeat([]api.Ratio{r}, n) }
	for _, c := range []struct {
		l     []api.Ratio
		cells []int
		want  api.Ratio
	}{
		{[]api.Ratio{{N: 5, D: 1}}, []int{1}, api.Ratio{N: 5, D: 1}}, {[]api.Ratio{{N: 0, D: 4}}, []int{8}, api.Ratio{N: 0, D: 1}}, {[]api.Ratio{{N: 6, D: 4}}, []int{8}, api.Ratio{N: 3, D: 2}},
		{[]api.Ratio{{N: -6, D: 4}}, []int{4}, api.Ratio{N: -3, D: 2}}, {[]api.Ratio{{N: 1, D: 1}, {N: -1, D: 1}}, []int{3, 3}, api.Ratio{N: 0, D: 1}}, {[]api.Ratio{{N: 1, D: 1}, {N: -1, D: 1}}, []int{1, 3}, api.Ratio{N: -1, D: 2}},
		{[]api.Ratio{{N: 7, D: 1024}, {N: 0, D: 1}}, []int{1024, 1}, api.Ratio{N: 7, D: 1025}}, {[]api.Ratio{{N: 1, D: 2}, {N: 1, D: 3}, {N: 1, D: 4}}, []int{2, 3, 4}, api.Ratio{N: 1, D: 3}},
		{many(api.Ratio{N: m, D: 1}, 100), slices.Repeat([]int{1024}, 100), api.Ratio{N: m, D: 1}}, {many(api.Ratio{N: -m, D: 1}, 100), slices.Repeat([]int{1024}, 100), api.Ratio{N: -m, D: 1}},
		{many(api.Ratio{N: m, D: 7}, 100), slices.Repeat([]int{7}, 100), api.Ratio{N: m, D: 7}},
	} {
		if r, e := field.Weighted(c.l, c.cells); r != c.want || e != api.OK {
			t.Errorf("Weighted of %v by %v = %v, %d, want %v", c.l, c.cells, r, e, c.want)
		}
	}
}

func TestWeightedAsWritten(t *testing.T) {
	next := thrown(5)
	for range 2000 {
		var l []api.Ratio
		var cells []int
		sum, all := new(big.Rat), 0
		for range 1 + next(100) {
			d := 1 + next(1+next(1024))
			n := d * (1 + next(1024/d))
			r := api.Ratio{N: next(2*api.MaxMass+1) - api.MaxMass, D: d}
			if next(2) == 0 {
				r.N = next(20) - 10
			}
			l, cells = append(l, r), append(cells, n)
			sum.Add(sum, new(big.Rat).Mul(big.NewRat(int64(r.N), int64(d)), big.NewRat(int64(n), 1)))
			all += n
		}
		want := ratioOf(sum.Mul(sum, big.NewRat(1, int64(all))))
		if r, e := field.Weighted(l, cells); r != want || e != api.OK {
			t.Fatalf("Weighted of %v by %v = %v, %d, want %v", l, cells, r, e, want)
		}
	}
}

func TestWeightedErrors(t *testing.T) {
	check := func(l []api.Ratio, cells []int, want api.Errno) {
		t.Helper()
		if r, e := field.Weighted(l, cells); r != (api.Ratio{}) || e != want {
			t.Errorf("Weighted of %v by %v = %v, %d, want %d", l, cells, r, e, want)
		}
	}
	good, bad := api.Ratio{N: 1, D: 2}, api.Ratio{N: 1, D: 0}
	for _, n := range [][2]int{{0, 1}, {1, 0}, {1, 2}, {100, 101}, {101, 100}, {0, 101}, {200, 0}} {
		check(slices.Repeat([]api.Ratio{good}, n[0]), slices.Repeat([]int{2}, n[1]), api.ErrSize)
		check(slices.Repeat([]api.Ratio{bad}, n[0]), slices.Repeat([]int{-2}, n[1]), api.ErrSize)
	}
	check(nil, nil, api.ErrRange)
	check([]api.Ratio{}, []int{}, api.ErrRange)
	check(slices.Repeat([]api.Ratio{good}, 101), slices.Repeat([]int{2}, 101), api.ErrRange)
	for _, x := range []struct {
		r api.Ratio
		n int
	}{
		{good, 0}, {good, -1}, {good, -2}, {good, 1025}, {good, 1026}, {good, 1}, {good, 3}, {good, math.MaxInt}, {good, math.MinInt}, {api.Ratio{N: 1, D: 1}, 1025}, {api.Ratio{N: 1, D: 1}, 0}, {api.Ratio{N: 1, D: 1}, -1},
		{api.Ratio{N: api.MaxMass + 1, D: 2}, 2}, {api.Ratio{N: -api.MaxMass - 1, D: 2}, 2}, {api.Ratio{N: math.MaxInt, D: 1}, 1}, {api.Ratio{N: math.MinInt, D: 1}, 1},
		{bad, 2}, {api.Ratio{}, 1}, {api.Ratio{N: 1, D: -1}, 2}, {api.Ratio{N: 1, D: -2}, 2}, {api.Ratio{N: 1, D: 4}, 2}, {api.Ratio{N: 1, D: 4}, 6}, {api.Ratio{N: 0, D: 5}, 6}, {api.Ratio{N: 1, D: math.MaxInt}, 2}, {api.Ratio{N: 1, D: math.MinInt}, 2}, {api.Ratio{N: 4, D: 4}, 2},
	} {
		check([]api.Ratio{x.r}, []int{x.n}, api.ErrRange)
		check([]api.Ratio{good, good, x.r}, []int{2, 4, x.n}, api.ErrRange)
		check([]api.Ratio{x.r, good}, []int{x.n, 2}, api.ErrRange)
	}
}
