package share_test

import (
	"math"
	"slices"
	"testing"

	"slipstream/api"
	"slipstream/cell"
	"slipstream/grid"
	"slipstream/node"
	"slipstream/share"
)

// read returns the grid of 3 by 2 whose columns weigh 9, 5 and 7.
func read(t *testing.T) api.Grid {
	t.Helper()
	g, line, e := grid.Parse("3 2\n4 1 0 0\n0 2 3 0\n0 0 0 5\n1 1 1 1\n0 0 0 0\n0 0 2 0\n")
	if e != api.OK {
		t.Fatalf("error %d in the line %d", e, line)
	}
	return g
}

func TestLoads(t *testing.T) {
	if l, e := share.Loads(read(t)); !slices.Equal(l, []int{9, 5, 7}) || e != api.OK {
		t.Errorf("Loads = %v, %d", l, e)
	}
	for _, g := range grids() {
		want := make([]int, g.Wide)
		for y := range g.High {
			for x := range g.Wide {
				want[x] += total(g.Cells[x+g.Wide*y][:])
			}
		}
		l, e := share.Loads(g)
		if !slices.Equal(l, want) || e != api.OK || !share.Valid(l) {
			t.Errorf("%d by %d: Loads = %v, %d, want %v", g.Wide, g.High, l, e, want)
		}
		if total(l) != done[int](t)(grid.Mass(g)) {
			t.Errorf("%d by %d: Loads = %v", g.Wide, g.High, l)
		}
	}
}

func TestMap(t *testing.T) {
	for _, c := range []struct{ cuts, owner []int }{
		{nil, []int{0, 0, 0, 0, 0, 0}}, {[]int{1}, []int{0, 1, 1, 0, 1, 1}}, {[]int{1, 1}, []int{0, 2, 2, 0, 2, 2}}, {[]int{1, 2}, []int{0, 1, 2, 0, 1, 2}}, {[]int{0}, []int{1, 1, 1, 1, 1, 1}}, {[]int{3}, []int{0, 0, 0, 0, 0, 0}}, {[]int{0, 2, 3}, []int{1, 1, 2, 1, 1, 2}},
		{make([]int, 7), slices.Repeat([]int{7}, 6)}, {[]int{0, 0, 0, 0, 0, 1, 2}, []int{5, 6, 7, 5, 6, 7}},
	} {
		if l, e := share.Map(read(t), c.cuts); !slices.Equal(l, c.owner) || e != api.OK {
			t.Errorf("Map of %v = %v, %d", c.cuts, l, e)
		}
	}
	next := thrown(8)
	for _, g := range grids() {
		for k := 1; k <= api.MaxNodes; k++ {
			cuts := thrownShare(g.Wide, k, next)
			owner := done[[]int](t)(share.Map(g, cuts))
			if !node.ValidMap(g, owner) {
				t.Fatalf("%d by %d: Map of %v is not valid", g.Wide, g.High, cuts)
			}
			for i, n := range owner {
				if n != holder(cuts, i%g.Wide) {
					t.Fatalf("%d by %d: Map of %v = %v", g.Wide, g.High, cuts, owner)
				}
			}
		}
	}
}

// TestMapIsColumns where package node knows the cuts, too.
func TestMapIsColumns(t *testing.T) {
	g := filled(9, 4, 5, thrown(1))
	for _, cuts := range [][]int{nil, {1}, {8}, {2, 5}, {1, 2, 3, 4, 5, 6, 7}, {1, 4, 8}} {
		want := done[[]int](t)(node.Columns(g, cuts))
		if l, e := share.Map(g, cuts); !slices.Equal(l, want) || e != api.OK {
			t.Errorf("Map of %v = %v, %d", cuts, l, e)
		}
	}
}

// TestRunOfAnyShare gives the bits of grid.Run.
func TestRunOfAnyShare(t *testing.T) {
	rules := done[[]api.Rule](t)(cell.Parse("turn shift:3 none"))
	next := thrown(14)
	for _, g := range grids() {
		for range 4 {
			cuts := thrownShare(g.Wide, 1+next(api.MaxNodes), next)
			owner := done[[]int](t)(share.Map(g, cuts))
			n := next(5)
			want := done[api.Grid](t)(grid.Run(g, rules, 0, n))
			got := done[api.Grid](t)(node.Run(g, owner, rules, n))
			if grid.Format(got) != grid.Format(want) {
				t.Fatalf("%d by %d: another grid after %d steps with the cuts %v", g.Wide, g.High, n, cuts)
			}
		}
	}
}

func TestCost(t *testing.T) {
	for _, c := range []struct {
		cuts       []int
		note, cost int
	}{
		{nil, 10, 21}, {[]int{1}, 0, 12}, {[]int{1}, 10, 92}, {[]int{0}, 10, 21}, {[]int{3}, 10, 21}, {[]int{2}, 10, 94}, {[]int{1, 1}, 10, 92}, {[]int{1, 2}, 10, 129}, {[]int{1, 2}, most, 9 + 12*most}, {make([]int, 7), most, 21},
	} {
		if n, e := share.Cost(read(t), c.cuts, c.note); n != c.cost || e != api.OK {
			t.Errorf("Cost of %v, %d = %d, %d", c.cuts, c.note, n, e)
		}
	}
	next := thrown(2)
	for _, g := range grids() {
		cuts := thrownShare(g.Wide, 1+next(api.MaxNodes), next)
		loads := done[[]int](t)(share.Loads(g))
		traffic := done[int](t)(node.Traffic(g, done[[]int](t)(share.Map(g, cuts))))
		for _, note := range []int{0, 1, 1000, most} {
			want := slices.Max(weighed(loads, cuts)) + note*traffic
			if n, e := share.Cost(g, cuts, note); n != want || e != api.OK {
				t.Errorf("%d by %d: Cost of %v, %d = %d, %d", g.Wide, g.High, cuts, note, n, e)
			}
		}
	}
}

// TestGridErrors gives wrong grids, wrong shares, too many nodes and wrong costs of a note; of several errors the first one counts.
func TestGridErrors(t *testing.T) {
	for _, g := range invalidGrids() {
		if l, e := share.Loads(g); len(l) != 0 || e != api.ErrInvalid {
			t.Errorf("%v: Loads = %v, %d", g, l, e)
		}
		for _, cuts := range [][]int{nil, {-1}, make([]int, 8), make([]int, 16)} {
			checkGrid(t, g, cuts, 0, api.ErrInvalid)
			checkGrid(t, g, cuts, -1, api.ErrInvalid)
		}
	}
	g := filled(5, 2, 9, thrown(1))
	for _, cuts := range badCuts() {
		checkGrid(t, g, cuts, 0, api.ErrRange)
		checkGrid(t, g, cuts, most+1, api.ErrRange)
	}
	for _, cuts := range [][]int{make([]int, 8), make([]int, 15), {0, 1, 2, 3, 4, 5, 5, 5}, slices.Repeat([]int{5}, 9)} {
		checkGrid(t, g, cuts, 0, api.ErrLimit)
		checkGrid(t, g, cuts, most, api.ErrLimit)
	}
	for _, note := range []int{-1, most + 1, math.MaxInt, math.MinInt} {
		for _, cuts := range [][]int{nil, {3}, make([]int, 8)} {
			if n, e := share.Cost(g, cuts, note); n != 0 || e != api.ErrRange {
				t.Errorf("Cost of %v, %d = %d, %d", cuts, note, n, e)
			}
		}
	}
}

func checkGrid(t *testing.T, g api.Grid, cuts []int, note int, want api.Errno) {
	t.Helper()
	if l, e := share.Map(g, cuts); len(l) != 0 || e != want {
		t.Errorf("Map of %v = %v, %d, want %d", cuts, l, e, want)
	}
	if n, e := share.Cost(g, cuts, note); n != 0 || e != want {
		t.Errorf("Cost of %v, %d = %d, %d, want %d", cuts, note, n, e, want)
	}
}
