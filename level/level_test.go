package level_test

import (
	"slices"
	"testing"

	"slipstream/api"
	"slipstream/grid"
	"slipstream/level"
)

func TestRefine(t *testing.T) {
	for _, g := range grids() {
		f, e := level.Refine(g)
		if g.Wide > 32 || g.High > 32 || g.Wide*g.High > 256 {
			if !isZeroGrid(f) || e != api.ErrLimit {
				t.Errorf("Refine of %d by %d = %v, %d", g.Wide, g.High, f, e)
			}
			continue
		}
		if e != api.OK || !sameGrid(f, refined(g)) {
			t.Errorf("Refine(%v) = %v, %d", g, f, e)
		}
		if c, e := level.Coarsen(f); e != api.OK || !sameGrid(c, g) {
			t.Errorf("Coarsen(Refine(%v)) = %v, %d", g, c, e)
		}
		if is, e := level.Even(f); e != api.OK || !is {
			t.Errorf("Even(Refine(%v)) = %v, %d", g, is, e)
		}
	}
}

// TestRefineExample: the fine cells of a cell are, in this order, the lower left, the lower right, the upper left and the upper right one.
func TestRefineExample(t *testing.T) {
	g := api.Grid{Wide: 1, High: 2, Cells: []api.Cell{{7, 1, 0, 6}, {0, 0, 13, 4}}}
	want := api.Grid{Wide: 2, High: 4, Cells: []api.Cell{
		{2, 1, 0, 2}, {2, 0, 0, 2},
		{2, 0, 0, 1}, {1, 0, 0, 1},
		{0, 0, 4, 1}, {0, 0, 3, 1},
		{0, 0, 3, 1}, {0, 0, 3, 1},
	}}
	if f := done[api.Grid](t)(level.Refine(g)); !sameGrid(f, want) {
		t.Errorf("Refine = %v", f)
	}
}

// TestRefineKeeps: the mass, the momentum, and the mass of each direction.
func TestRefineKeeps(t *testing.T) {
	for _, g := range grids() {
		f, e := level.Refine(g)
		if e != api.OK {
			continue
		}
		var before, after api.Cell
		for _, c := range g.Cells {
			for dir, n := range c {
				before[dir] += n
			}
		}
		for _, c := range f.Cells {
			for dir, n := range c {
				after[dir] += n
			}
		}
		if before != after {
			t.Errorf("%v in %v, and %v in its refined form", before, g, after)
		}
		x, y, _ := grid.Momentum(g)
		if u, v, e := grid.Momentum(f); u != x || v != y || e != api.OK {
			t.Errorf("the momentum of %v was %d, %d, and is %d, %d", g, x, y, u, v)
		}
	}
}

func TestCoarsen(t *testing.T) {
	for _, g := range grids() {
		c, e := level.Coarsen(g)
		l, f := level.Blocks(g)
		is, h := level.Even(g)
		if g.Wide%2+g.High%2 > 0 {
			if !isZeroGrid(c) || e != api.ErrSize || len(l) != 0 || f != api.ErrSize || is || h != api.ErrSize {
				t.Errorf("%d by %d: %v, %d, %v, %d, %v, %d", g.Wide, g.High, c, e, l, f, is, h)
			}
			continue
		}
		want := coarsened(g)
		if e != api.OK || !sameGrid(c, want) {
			t.Errorf("Coarsen(%v) = %v, %d", g, c, e)
		}
		var masses []int
		for _, c := range want.Cells {
			masses = append(masses, c[0]+c[1]+c[2]+c[3])
		}
		if f != api.OK || !slices.Equal(l, masses) {
			t.Errorf("Blocks(%v) = %v, %d", g, l, f)
		}
		if h != api.OK || is != sameGrid(g, refined(want)) {
			t.Errorf("Even(%v) = %v, %d", g, is, h)
		}
	}
}

// TestEven moves one particle of an even grid to another cell, or to another direction.
func TestEven(t *testing.T) {
	for _, wide := range []int{1, 2, 3} {
		g := refined(filled(wide, 2, 30, uint64(wide)))
		for i := range g.Cells {
			for dir := range 4 {
				other := api.Grid{Wide: g.Wide, High: g.High, Cells: slices.Clone(g.Cells)}
				other.Cells[i][dir]++
				want := sameGrid(other, refined(coarsened(other)))
				if is, e := level.Even(other); e != api.OK || is != want {
					t.Errorf("Even(%v) = %v, %d", other, is, e)
				}
				for j := range g.Cells {
					for to := range 4 {
						if (i != j || dir != to) && other.Cells[j][to] > 0 {
							moved := api.Grid{Wide: g.Wide, High: g.High, Cells: slices.Clone(other.Cells)}
							moved.Cells[j][to]--
							want := sameGrid(moved, refined(coarsened(moved)))
							if is, e := level.Even(moved); e != api.OK || is != want {
								t.Errorf("Even(%v) = %v, %d", moved, is, e)
							}
						}
					}
				}
			}
		}
	}
	for _, g := range []api.Grid{
		{Wide: 2, High: 2, Cells: []api.Cell{{2}, {2}, {1}, {2}}}, {Wide: 2, High: 2, Cells: []api.Cell{{0, 0, 0, 2}, {}, {}, {}}},
		{Wide: 2, High: 2, Cells: []api.Cell{{1}, {0, 1}, {}, {}}}, {Wide: 2, High: 2, Cells: []api.Cell{{}, {api.MaxMass}, {}, {}}},
	} {
		if is, e := level.Even(g); e != api.OK || is {
			t.Errorf("Even(%v) = %v, %d", g, is, e)
		}
	}
}

// TestInvalidGrids: this error comes also where the sides are odd or too great.
func TestInvalidGrids(t *testing.T) {
	for _, g := range invalidGrids() {
		if f, e := level.Refine(g); !isZeroGrid(f) || e != api.ErrInvalid {
			t.Errorf("Refine(%v) = %v, %d", g, f, e)
		}
		if c, e := level.Coarsen(g); !isZeroGrid(c) || e != api.ErrInvalid {
			t.Errorf("Coarsen(%v) = %v, %d", g, c, e)
		}
		if is, e := level.Even(g); is || e != api.ErrInvalid {
			t.Errorf("Even(%v) = %v, %d", g, is, e)
		}
		if l, e := level.Blocks(g); len(l) != 0 || e != api.ErrInvalid {
			t.Errorf("Blocks(%v) = %v, %d", g, l, e)
		}
		for _, a := range []api.Point{{X: 1, Y: 1}, {X: -1, Y: 1}} {
			if p, e := level.Opened(g, a, api.Point{X: 1, Y: 1}); !isZeroPatch(p) || e != api.ErrInvalid {
				t.Errorf("Opened(%v) = %v, %d", g, p, e)
			}
		}
	}
}
