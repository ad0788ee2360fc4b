package level_test

import (
	"math"
	"slices"
	"testing"

	"slipstream/api"
	"slipstream/grid"
	"slipstream/level"
)

func TestValid(t *testing.T) {
	for _, p := range patches() {
		if !level.Valid(p) {
			t.Errorf("not valid: %v", p)
		}
	}
	for _, p := range invalidPatches() {
		if level.Valid(p) {
			t.Errorf("valid: %v", p)
		}
	}
	wrong(t, right(), api.OK)
}

// TestValidEverywhere compares Valid with the chapter's words for all rectangles of a grid.
func TestValidEverywhere(t *testing.T) {
	const wide, high = 5, 4
	for x0 := -1; x0 <= wide; x0++ {
		for x1 := -1; x1 <= wide+1; x1++ {
			for y0 := -1; y0 <= high; y0++ {
				for y1 := -1; y1 <= high+1; y1++ {
					want := 1 <= x0 && x0 < x1 && x1 <= wide-1 && 1 <= y0 && y0 < y1 && y1 <= high-1
					p := api.Patch{Coarse: empty(wide, high), X0: x0, Y0: y0, X1: x1, Y1: y1, Fine: empty(max(1, 2*(x1-x0)), max(1, 2*(y1-y0)))}
					if level.Valid(p) != want {
						t.Errorf("Valid of %d %d %d %d is %v", x0, y0, x1, y1, !want)
					}
				}
			}
		}
	}
}

// TestInvalidPatches: this error comes also where another argument is wrong.
func TestInvalidPatches(t *testing.T) {
	wild := arguments{rules: nil, t: -1, n: -1, c: api.Point{X: -1}, f: api.Point{Y: -1}}
	for _, p := range invalidPatches() {
		for _, a := range []arguments{right(), wild} {
			a.p = p
			wrong(t, a, api.ErrInvalid, everything()...)
		}
		if level.Same(p, p) || level.Same(p, middle()) || level.Same(middle(), p) {
			t.Errorf("%v is the same as a patch", p)
		}
		if s := level.Format(p); s != "" {
			t.Errorf("Format(%v) = %q", p, s)
		}
	}
}

func TestOpened(t *testing.T) {
	for i, f := range frames() {
		for _, most := range []int{1, 3, 200000} {
			g := filled(f.wide, f.high, most, uint64(i))
			want := api.Patch{Coarse: filled(f.wide, f.high, most, uint64(i)), X0: f.x0, Y0: f.y0, X1: f.x1, Y1: f.y1}
			part := api.Grid{Wide: f.x1 - f.x0, High: f.y1 - f.y0}
			for j, c := range g.Cells {
				if inside(want, j%f.wide, j/f.wide) {
					part.Cells = append(part.Cells, c)
					want.Coarse.Cells[j] = api.Cell{}
				}
			}
			want.Fine = refined(part)
			low, high, left, right := f.y0, f.y1-1, f.x0, f.x1-1
			for _, c := range [][4]int{{left, low, right, high}, {right, low, left, high}, {left, high, right, low}, {right, high, left, low}} {
				p, e := level.Opened(g, api.Point{X: c[0], Y: c[1]}, api.Point{X: c[2], Y: c[3]})
				if e != api.OK || !samePatch(p, want) || !level.Valid(p) {
					t.Fatalf("Opened(%v, %v) = %v, %d", g, c, p, e)
				}
				if h, e := level.Shut(p); e != api.OK || !sameGrid(h, g) {
					t.Errorf("Shut(Opened(%v, %v)) = %v, %d", g, c, h, e)
				}
			}
		}
	}
}

func TestOpenedErrors(t *testing.T) {
	const least, most = math.MinInt, math.MaxInt
	for _, c := range []struct {
		wide, high int
		a, b       api.Point
		e          api.Errno
	}{
		{5, 4, api.Point{X: 1, Y: 1}, api.Point{X: 3, Y: 2}, api.OK},
		{5, 4, api.Point{X: 0, Y: 1}, api.Point{X: 3, Y: 2}, api.ErrRange},
		{5, 4, api.Point{X: 1, Y: 0}, api.Point{X: 3, Y: 2}, api.ErrRange},
		{5, 4, api.Point{X: 4, Y: 1}, api.Point{X: 3, Y: 2}, api.ErrRange},
		{5, 4, api.Point{X: 1, Y: 3}, api.Point{X: 3, Y: 2}, api.ErrRange},
		{5, 4, api.Point{X: -1, Y: 1}, api.Point{X: 3, Y: 2}, api.ErrRange},
		{5, 4, api.Point{X: 1, Y: -1}, api.Point{X: 3, Y: 2}, api.ErrRange},
		{5, 4, api.Point{X: 5, Y: 1}, api.Point{X: 3, Y: 2}, api.ErrRange},
		{5, 4, api.Point{X: 1, Y: 4}, api.Point{X: 3, Y: 2}, api.ErrRange},
		{5, 4, api.Point{X: least, Y: 1}, api.Point{X: 3, Y: 2}, api.ErrRange},
		{5, 4, api.Point{X: 1, Y: most}, api.Point{X: 3, Y: 2}, api.ErrRange},
		{5, 4, api.Point{X: most, Y: least}, api.Point{X: most, Y: least}, api.ErrRange},
		{2, 5, api.Point{X: 1, Y: 1}, api.Point{X: 1, Y: 1}, api.ErrRange},
		{5, 2, api.Point{X: 1, Y: 1}, api.Point{X: 1, Y: 1}, api.ErrRange},
		{1, 1, api.Point{}, api.Point{}, api.ErrRange},
		{3, 3, api.Point{X: 1, Y: 1}, api.Point{X: 1, Y: 1}, api.OK},
		{64, 3, api.Point{X: 1, Y: 1}, api.Point{X: 32, Y: 1}, api.OK},
		{64, 3, api.Point{X: 1, Y: 1}, api.Point{X: 33, Y: 1}, api.ErrLimit},
		{3, 64, api.Point{X: 1, Y: 62}, api.Point{X: 1, Y: 31}, api.OK},
		{3, 64, api.Point{X: 1, Y: 62}, api.Point{X: 1, Y: 30}, api.ErrLimit},
		{32, 32, api.Point{X: 1, Y: 1}, api.Point{X: 16, Y: 16}, api.OK},
		{32, 32, api.Point{X: 1, Y: 1}, api.Point{X: 17, Y: 16}, api.ErrLimit},
		{32, 32, api.Point{X: 1, Y: 1}, api.Point{X: 16, Y: 17}, api.ErrLimit},
		{64, 16, api.Point{X: 1, Y: 1}, api.Point{X: 62, Y: 14}, api.ErrLimit},
		// These would be ErrLimit as well.
		{64, 16, api.Point{X: 0, Y: 1}, api.Point{X: 62, Y: 14}, api.ErrRange},
		{32, 32, api.Point{X: 1, Y: 1}, api.Point{X: 30, Y: 31}, api.ErrRange},
	} {
		g := filled(c.wide, c.high, 9, 1)
		for _, x := range [][2]api.Point{{c.a, c.b}, {c.b, c.a}} {
			if p, e := level.Opened(g, x[0], x[1]); e != c.e || e != api.OK && !isZeroPatch(p) {
				t.Errorf("Opened(%d by %d, %v) = %v, %d, want %d", c.wide, c.high, x, p, e, c.e)
			}
		}
	}
}

func TestShut(t *testing.T) {
	for _, p := range patches() {
		want := api.Grid{Wide: p.Coarse.Wide, High: p.Coarse.High, Cells: slices.Clone(p.Coarse.Cells)}
		part := coarsened(p.Fine)
		for i, c := range part.Cells {
			want.Cells[p.X0+i%part.Wide+want.Wide*(p.Y0+i/part.Wide)] = c
		}
		if g, e := level.Shut(p); e != api.OK || !sameGrid(g, want) {
			t.Errorf("Shut(%v) = %v, %d", p, g, e)
		}
	}
}

func TestMassAndMomentum(t *testing.T) {
	for _, p := range patches() {
		mass, east, north := 0, 0, 0
		for _, c := range slices.Concat(p.Coarse.Cells, p.Fine.Cells) {
			mass += c[0] + c[1] + c[2] + c[3]
			east += c[0] - c[2]
			north += c[1] - c[3]
		}
		if n, e := level.Mass(p); n != mass || e != api.OK {
			t.Errorf("Mass(%v) = %d, %d", p, n, e)
		}
		if x, y, e := level.Momentum(p); x != east || y != north || e != api.OK {
			t.Errorf("Momentum(%v) = %d, %d, %d", p, x, y, e)
		}
		// A patch that is shut has as much of both.
		g := done[api.Grid](t)(level.Shut(p))
		if x, y, e := grid.Momentum(g); x != east || y != north || e != api.OK || massOf(g) != mass {
			t.Errorf("Shut(%v) has the momentum %d, %d and the mass %d", p, x, y, massOf(g))
		}
	}
}

// TestInside: and the fine cells, each of which has its coarse one.
func TestInside(t *testing.T) {
	for _, p := range patches() {
		seen := make([]int, len(p.Fine.Cells))
		for i := range p.Coarse.Cells {
			c := api.Point{X: i % p.Coarse.Wide, Y: i / p.Coarse.Wide}
			want := inside(p, c.X, c.Y)
			if is, e := level.Inside(p, c); is != want || e != api.OK {
				t.Errorf("Inside(%v, %v) = %v, %d", p, c, is, e)
			}
			four, e := level.Fine(p, c)
			if !want {
				if four != [4]int{} || e != api.ErrNone {
					t.Errorf("Fine(%v, %v) = %v, %d", p, c, four, e)
				}
				continue
			}
			for part, at := range four {
				f := api.Point{X: 2*(c.X-p.X0) + part%2, Y: 2*(c.Y-p.Y0) + part/2}
				if at != f.X+p.Fine.Wide*f.Y || e != api.OK {
					t.Fatalf("Fine(%v, %v) = %v, %d", p, c, four, e)
				}
				seen[at]++
				if d, e := level.Coarse(p, f); d != c || e != api.OK {
					t.Errorf("Coarse(%v, %v) = %v, %d", p, f, d, e)
				}
			}
		}
		if slices.Min(seen) != 1 || slices.Max(seen) != 1 {
			t.Errorf("the fine cells of %v come so often: %v", p, seen)
		}
	}
}

func TestPointErrors(t *testing.T) {
	p := middle()
	const least, most = math.MinInt, math.MaxInt
	for _, c := range []api.Point{{X: -1}, {Y: -1}, {X: 6}, {Y: 5}, {X: 6, Y: 5}, {X: 3, Y: 5}, {X: 6, Y: 2}, {X: -1, Y: 2}, {X: 3, Y: -1}, {X: least, Y: 2}, {X: 3, Y: most}, {X: most, Y: least}} {
		a := right()
		a.c = c
		wrong(t, a, api.ErrRange, "Inside", "Fine")
	}
	for _, c := range []api.Point{{}, {X: 1, Y: 2}, {X: 4, Y: 2}, {X: 2, Y: 1}, {X: 3, Y: 3}, {X: 5, Y: 4}} {
		a := right()
		a.c = c
		wrong(t, a, api.ErrNone, "Fine")
	}
	// The points of Fine are not those of Coarse: it has two rows.
	for _, f := range []api.Point{{X: -1}, {Y: -1}, {X: 4}, {Y: 2}, {X: 3, Y: 2}, {X: 4, Y: 1}, {X: 5, Y: 4}, {X: 0, Y: most}, {X: least}, {X: most, Y: most}} {
		a := right()
		a.f = f
		wrong(t, a, api.ErrRange, "Coarse")
	}
	if c, e := level.Coarse(p, api.Point{X: 1, Y: 1}); c != (api.Point{X: 2, Y: 2}) || e != api.OK {
		t.Errorf("Coarse = %v, %d", c, e)
	}
}

func TestSame(t *testing.T) {
	l := smallPatches()
	for i, a := range l {
		if !level.Same(a, changed(a, func(*api.Patch) {})) {
			t.Errorf("%v is not the same as itself", a)
		}
		for j, b := range l {
			if level.Same(a, b) != samePatch(a, b) {
				t.Errorf("Same(%v, %v) of %d and %d is wrong", a, b, i, j)
			}
		}
		for at := range a.Fine.Cells {
			b := changed(a, func(p *api.Patch) {
				p.Fine.Cells[at], p.Fine.Cells[0] = p.Fine.Cells[0], p.Fine.Cells[at]
			})
			if level.Same(a, b) != slices.Equal(a.Fine.Cells, b.Fine.Cells) {
				t.Errorf("Same(%v, %v) is wrong", a, b)
			}
		}
		for dir := range 4 {
			b := changed(a, func(p *api.Patch) { p.Coarse.Cells[0][dir] = 0 })
			if level.Same(a, b) != (a.Coarse.Cells[0][dir] == 0) || level.Same(b, a) != level.Same(a, b) {
				t.Errorf("Same(%v, %v) is wrong", a, b)
			}
		}
	}
	// These are alike but for where the rectangle is, or how the cells lie.
	alike := []api.Patch{frame{5, 5, 1, 1, 2, 2}.of(1, 1, 0), frame{5, 5, 2, 1, 3, 2}.of(1, 1, 0), frame{5, 5, 1, 2, 2, 3}.of(1, 1, 0), frame{5, 5, 2, 2, 3, 3}.of(1, 1, 0), frame{5, 5, 1, 1, 3, 2}.of(1, 1, 0), frame{5, 5, 1, 1, 2, 3}.of(1, 1, 0), frame{5, 6, 1, 1, 2, 2}.of(1, 1, 0), frame{6, 5, 1, 1, 2, 2}.of(1, 1, 0)}
	for i, a := range alike {
		for j, b := range alike {
			if level.Same(a, b) != (i == j) {
				t.Errorf("Same(%v, %v) is wrong", a, b)
			}
		}
	}
}

// TestSameOnlyValid: a patch that differs in one number of the rectangle, or in one side, is not valid, and so not the same.
func TestSameOnlyValid(t *testing.T) {
	for _, p := range smallPatches() {
		for _, by := range []int{-1, 1} {
			for at := range 8 {
				other := changed(p, func(p *api.Patch) {
					*[]*int{&p.X0, &p.Y0, &p.X1, &p.Y1, &p.Coarse.Wide, &p.Coarse.High, &p.Fine.Wide, &p.Fine.High}[at] += by
				})
				if level.Same(p, other) || level.Same(other, p) || level.Same(other, other) {
					t.Errorf("%v is the same as %v", p, other)
				}
			}
		}
	}
}
