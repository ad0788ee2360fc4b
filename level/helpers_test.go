package level_test

import (
	"math"
	"slices"
	"testing"

	"slipstream/api"
	"slipstream/cell"
	"slipstream/level"
)

func none() api.Rule { return api.Rule{Kind: api.RNone} }

func turn() api.Rule { return api.Rule{Kind: api.RTurn} }

func shift(by int) api.Rule { return api.Rule{Kind: api.RShift, By: by} }

func validRules() [][]api.Rule {
	return [][]api.Rule{
		{none()}, {turn()}, {shift(1)}, {turn(), none()}, {shift(3), turn(), shift(-2)},
		{none(), turn(), shift(1), shift(2), shift(3), shift(-7), turn(), shift(123456789)},
	}
}

func invalidRules() [][]api.Rule {
	return [][]api.Rule{
		nil, {}, make([]api.Rule, api.MaxRules+1), {{Kind: 3}}, {{Kind: -1}}, {{Kind: api.RNone, By: 1}},
		{shift(api.MaxMass + 1)}, {turn(), none(), {Kind: 3}}, {shift(math.MinInt), turn()},
	}
}

// thrown returns numbers from 0 to most-1 that look as if they were thrown; seed tells which.
func thrown(seed uint64) func(most int) int {
	return func(most int) int {
		seed = seed*6364136223846793005 + 1442695040888963407
		return int(seed>>33) % most
	}
}

func empty(wide, high int) api.Grid {
	return api.Grid{Wide: wide, High: high, Cells: make([]api.Cell, wide*high)}
}

// filled returns a grid with populations from 0 to most-1.
func filled(wide, high, most int, seed uint64) api.Grid {
	next := thrown(seed)
	g := empty(wide, high)
	for i := range g.Cells {
		for dir := range 4 {
			g.Cells[i][dir] = next(most)
		}
	}
	return g
}

// grids returns valid grids of all kinds of sides: without particles, with few and with many, and with as many as can be.
func grids() []api.Grid {
	var l []api.Grid
	for i, s := range [][2]int{{1, 1}, {1, 2}, {2, 1}, {2, 2}, {4, 2}, {2, 4}, {3, 2}, {2, 3}, {3, 3}, {5, 4}, {6, 8}, {16, 16}, {32, 8}, {8, 32}, {32, 1}, {1, 32}, {33, 2}, {2, 33}, {32, 9}, {9, 32}, {17, 16}, {64, 16}, {16, 64}, {32, 32}, {64, 1}, {1, 64}} {
		l = append(l, empty(s[0], s[1]), filled(s[0], s[1], 3, uint64(i)), filled(s[0], s[1], 200000, uint64(i)+100))
		full := empty(s[0], s[1])
		full.Cells[len(full.Cells)-1] = api.Cell{250000001, 249999999, 250000000, 249999999}
		full.Cells[0][i%4]++
		l = append(l, full)
	}
	return l
}

func invalidGrids() []api.Grid {
	return []api.Grid{
		{}, {Wide: 1, High: 1}, {Wide: 0, High: 2}, {Wide: 2, High: 2}, {Wide: -2, High: -2, Cells: make([]api.Cell, 4)}, {Wide: 2, High: 2, Cells: make([]api.Cell, 3)},
		{Wide: 2, High: 2, Cells: make([]api.Cell, 5)}, empty(66, 2), empty(2, 66), empty(64, 18), {Wide: math.MaxInt, High: math.MaxInt, Cells: make([]api.Cell, 1)},
		{Wide: 1 << 62, High: 4}, {Wide: 2, High: 2, Cells: []api.Cell{{}, {}, {}, {0, 0, -1}}}, {Wide: 2, High: 2, Cells: []api.Cell{{-1, 1}, {}, {}, {}}},
		{Wide: 2, High: 2, Cells: []api.Cell{{api.MaxMass}, {}, {}, {0, 1}}}, {Wide: 2, High: 2, Cells: []api.Cell{{math.MaxInt, math.MaxInt, 2}, {}, {}, {}}},
		{Wide: 3, High: 1, Cells: make([]api.Cell, 4)}, {Wide: 33, High: 1}, {Wide: 3, High: 3, Cells: make([]api.Cell, 8)},
	}
}

func massOf(g api.Grid) (n int) {
	for _, c := range g.Cells {
		n += c[0] + c[1] + c[2] + c[3]
	}
	return n
}

// refined tells each fine cell as section 'Finer and coarser' writes it.
func refined(g api.Grid) api.Grid {
	f := empty(2*g.Wide, 2*g.High)
	for y := range f.High {
		for x := range f.Wide {
			part := x%2 + 2*(y%2)
			for dir, n := range g.Cells[x/2+g.Wide*(y/2)] {
				// The first n modulo 4 parts have one more.
				f.Cells[x+f.Wide*y][dir] = (n + 3 - part) / 4
			}
		}
	}
	return f
}

// coarsened adds each fine cell to its coarse one.
func coarsened(g api.Grid) api.Grid {
	c := empty(g.Wide/2, g.High/2)
	for i, f := range g.Cells {
		for dir, n := range f {
			c.Cells[i%g.Wide/2+c.Wide*(i/g.Wide/2)][dir] += n
		}
	}
	return c
}

// frame is the sides of a coarse grid with a rectangle.
type frame struct{ wide, high, x0, y0, x1, y1 int }

// frames returns the smallest and the greatest ones, and such as touch all that they may touch.
func frames() []frame {
	return []frame{
		{3, 3, 1, 1, 2, 2}, {4, 3, 1, 1, 3, 2}, {3, 4, 1, 1, 2, 3}, {4, 3, 2, 1, 3, 2}, {3, 4, 1, 2, 2, 3}, {5, 5, 2, 2, 4, 3}, {5, 4, 1, 1, 4, 3}, {4, 5, 2, 1, 3, 4},
		{6, 7, 2, 3, 5, 5}, {9, 8, 1, 1, 8, 7}, {9, 8, 4, 4, 5, 5}, {32, 32, 7, 9, 23, 25}, {64, 16, 1, 1, 33, 9}, {16, 64, 3, 31, 11, 63}, {64, 3, 31, 1, 63, 2}, {3, 64, 1, 1, 2, 33},
	}
}

// of returns the patch of a frame, with populations below two numbers in Coarse and Fine.
func (f frame) of(coarse, fine int, seed uint64) api.Patch {
	p := api.Patch{
		Coarse: filled(f.wide, f.high, coarse, seed), X0: f.x0, Y0: f.y0, X1: f.x1, Y1: f.y1,
		Fine: filled(2*(f.x1-f.x0), 2*(f.y1-f.y0), fine, seed+1),
	}
	for i := range p.Coarse.Cells {
		if inside(p, i%f.wide, i/f.wide) {
			p.Coarse.Cells[i] = api.Cell{}
		}
	}
	return p
}

// full returns the patch of a frame with as many particles as can be, among them such as enter and such as leave.
func (f frame) full(seed uint64) api.Patch {
	p := f.of(1, 1, 0)
	next := thrown(seed)
	left := api.MaxMass
	for dir := range 4 {
		n := 90000000 + next(30000000)
		p.Fine.Cells[next(len(p.Fine.Cells))][dir] += n
		m := 90000000 + next(30000000)
		p.Coarse.Cells[f.x0-1+f.wide*f.y0][dir] += m
		left -= n + m
	}
	p.Coarse.Cells[f.x1-1+f.wide*f.y1][api.South] += left
	return p
}

func patches() []api.Patch {
	var l []api.Patch
	for i, f := range frames() {
		seed := uint64(17 * i)
		l = append(l, f.of(1, 1, 0), f.of(2, 2, seed), f.of(9, 1, seed+2), f.of(1, 9, seed+4), f.of(100, 7, seed+6), f.of(90000, 90000, seed+8), f.full(seed+9))
	}
	return l
}

func smallPatches() []api.Patch {
	return slices.DeleteFunc(patches(), func(p api.Patch) bool { return len(p.Coarse.Cells) > 80 })
}

// middle is a patch of 6 by 5, of which 2 by 1 cells are refined; few particles everywhere.
func middle() api.Patch {
	return frame{6, 5, 2, 2, 4, 3}.of(4, 4, 5)
}

// changed returns a patch in memory of its own after a change.
func changed(p api.Patch, do func(p *api.Patch)) api.Patch {
	p.Coarse.Cells, p.Fine.Cells = slices.Clone(p.Coarse.Cells), slices.Clone(p.Fine.Cells)
	do(&p)
	return p
}

func invalidPatches() []api.Patch {
	l := []api.Patch{{}}
	change := func(do func(p *api.Patch)) { l = append(l, changed(middle(), do)) }
	for _, g := range invalidGrids() {
		change(func(p *api.Patch) { p.Coarse = g })
		change(func(p *api.Patch) { p.Fine = g })
		change(func(p *api.Patch) { p.Coarse, p.Fine = g, g })
	}
	l = append(l, wrongFrames()...)
	// All that may be in the cells of Coarse but not in those of the rectangle.
	for _, i := range []int{14, 15} {
		for dir := range 4 {
			change(func(p *api.Patch) { p.Coarse.Cells[i][dir] = 1 })
		}
	}
	full := frame{5, 5, 2, 2, 4, 3}.full(3)
	for dir := range 4 {
		l = append(l, changed(full, func(p *api.Patch) { p.Coarse.Cells[dir][dir]++ }))
		l = append(l, changed(full, func(p *api.Patch) { p.Fine.Cells[dir][dir]++ }))
	}
	both := frame{3, 3, 1, 1, 2, 2}.of(1, 1, 0)
	both.Coarse.Cells[0][0], both.Fine.Cells[0][0] = api.MaxMass, api.MaxMass
	return append(l, both)
}

// wrongFrames returns patches without particles of which the rectangle, or what Fine has of it, is not valid.
func wrongFrames() []api.Patch {
	var l []api.Patch
	sides := func(wide, high, x0, y0, x1, y1, fineWide, fineHigh int) {
		l = append(l, api.Patch{Coarse: empty(wide, high), X0: x0, Y0: y0, X1: x1, Y1: y1, Fine: empty(fineWide, fineHigh)})
	}
	for _, x := range []struct{ from, to int }{{0, 2}, {0, 1}, {3, 5}, {4, 5}, {5, 6}, {0, 5}, {2, 2}, {3, 2}, {-1, 1}, {1, 6}} {
		side := max(2, 2*(x.to-x.from))
		sides(5, 5, x.from, 1, x.to, 2, side, 2)
		sides(5, 5, 1, x.from, 2, x.to, 2, side)
		sides(5, 5, x.from, x.from, x.to, x.to, side, side)
	}
	for _, f := range [][2]int{{2, 2}, {4, 4}, {2, 4}, {1, 1}, {3, 2}, {5, 2}, {4, 1}, {4, 3}, {6, 2}, {8, 1}, {2, 1}} {
		// The rectangle asks for 4 by 2.
		sides(6, 5, 2, 2, 4, 3, f[0], f[1])
	}
	for _, wild := range []int{math.MinInt, math.MaxInt, math.MinInt + 2, math.MaxInt - 1, 1<<62 + 1, 1<<63 - 3, -1 << 62, 1 << 32} {
		sides(6, 5, wild, 2, 4, 3, 4, 2)
		sides(6, 5, 2, wild, 4, 3, 4, 2)
		sides(6, 5, 2, 2, wild, 3, 4, 2)
		sides(6, 5, 2, 2, 4, wild, 4, 2)
		sides(6, 5, wild, wild, wild, wild, 4, 2)
		// The difference, or twice it, is right if it overflows.
		sides(6, 5, wild, 2, wild+2, 3, 4, 2)
		sides(6, 5, 2, wild, 4, wild+1, 4, 2)
	}
	sides(6, 5, 2, 2, 4+1<<62, 3, 4, 2)
	sides(6, 5, 2, 2, 4, 3+1<<62, 4, 2)
	// The greatest fine sides come from coarse ones of 32.
	sides(64, 3, 1, 1, 34, 2, 66, 2)
	sides(32, 32, 1, 1, 18, 17, 34, 32)
	return l
}

func inside(p api.Patch, x, y int) bool {
	return x >= p.X0 && x <= p.X1-1 && y >= p.Y0 && y <= p.Y1-1
}

func mod(n, m int) int { return (n%m + m) % m }

// beside returns the place next to another one in a direction.
func beside(x, y, dir int) (int, int) {
	return x + [4]int{1, 0, -1, 0}[dir], y + [4]int{0, 1, 0, -1}[dir]
}

// crossing is particles that burst, or are gathered, at a cell.
type crossing struct{ x, y, dir, n, turn int }

// stepped makes a step as section 'A patch' writes it, and tells what bursts and what is gathered.
func stepped(p api.Patch, l []api.Rule, t int) (q api.Patch, burst, gathered []crossing) {
	q = changed(p, func(*api.Patch) {})
	q.Coarse = empty(p.Coarse.Wide, p.Coarse.High)
	for i, c := range p.Coarse.Cells {
		c, _ = cell.Collide(c, l[t%len(l)])
		for dir, n := range c {
			x, y := beside(i%p.Coarse.Wide, i/p.Coarse.Wide, dir)
			x, y = mod(x, p.Coarse.Wide), mod(y, p.Coarse.High)
			if inside(p, x, y) {
				burst = append(burst, bursting(p, x, y, dir, n)...)
			} else {
				q.Coarse.Cells[x+p.Coarse.Wide*y][dir] += n
			}
		}
	}
	for turn := range 2 {
		var out []crossing
		q.Fine, out = fineStepped(q.Fine, l[(2*t+turn)%len(l)])
		gathered = append(gathered, out...)
		for _, c := range burst {
			if c.turn == turn {
				q.Fine.Cells[c.x+q.Fine.Wide*c.y][c.dir] += c.n
			}
		}
	}
	for _, c := range gathered {
		x, y := p.X0+floorHalf(c.x), p.Y0+floorHalf(c.y)
		q.Coarse.Cells[x+p.Coarse.Wide*y][c.dir] += c.n
	}
	return q, burst, gathered
}

// bursting returns the four parts of particles that would come into a coarse cell of the rectangle, and at which fine cells.
func bursting(p api.Patch, x, y, dir, n int) []crossing {
	x, y = 2*(x-p.X0), 2*(y-p.Y0)
	// The two fine cells that the particles meet first.
	var at [2][2]int
	switch dir {
	case api.East:
		at = [2][2]int{{x, y}, {x, y + 1}}
	case api.North:
		at = [2][2]int{{x, y}, {x + 1, y}}
	case api.West:
		at = [2][2]int{{x + 1, y}, {x + 1, y + 1}}
	case api.South:
		at = [2][2]int{{x, y + 1}, {x + 1, y + 1}}
	}
	var l []crossing
	for part := range 4 {
		a := at[part%2]
		l = append(l, crossing{a[0], a[1], dir, (n + 3 - part) / 4, part / 2})
	}
	return l
}

// fineStepped makes a fine step, and tells what comes to places off the grid.
func fineStepped(g api.Grid, r api.Rule) (h api.Grid, out []crossing) {
	h = empty(g.Wide, g.High)
	for i, c := range g.Cells {
		c, _ = cell.Collide(c, r)
		for dir, n := range c {
			x, y := beside(i%g.Wide, i/g.Wide, dir)
			if x >= 0 && x < g.Wide && y >= 0 && y < g.High {
				h.Cells[x+g.Wide*y][dir] += n
			} else {
				out = append(out, crossing{x: x, y: y, dir: dir, n: n})
			}
		}
	}
	return h, out
}

func floorHalf(n int) int { return int(math.Floor(float64(n) / 2)) }

func counted(l []crossing) (n int) {
	for _, c := range l {
		n += c.n
	}
	return n
}

func sameGrid(a, b api.Grid) bool {
	return a.Wide == b.Wide && a.High == b.High && slices.Equal(a.Cells, b.Cells)
}

func samePatch(a, b api.Patch) bool {
	return a.X0 == b.X0 && a.Y0 == b.Y0 && a.X1 == b.X1 && a.Y1 == b.Y1 && sameGrid(a.Coarse, b.Coarse) && sameGrid(a.Fine, b.Fine)
}

func isZeroGrid(g api.Grid) bool { return sameGrid(g, api.Grid{}) }

func isZeroPatch(p api.Patch) bool { return samePatch(p, api.Patch{}) }

// done returns a function that passes the result of a call on which must succeed.
func done[T any](t *testing.T) func(T, api.Errno) T {
	return func(x T, e api.Errno) T {
		t.Helper()
		if e != api.OK {
			t.Fatalf("error %d", e)
		}
		return x
	}
}

// arguments are what calls of a patch are given.
type arguments struct {
	p     api.Patch
	rules []api.Rule
	t, n  int
	// c is a coarse cell, and f a fine one.
	c, f api.Point
}

// right returns arguments that all calls take.
func right() arguments {
	return arguments{p: middle(), rules: []api.Rule{turn(), shift(3)}, t: 1, n: 3, c: api.Point{X: 3, Y: 2}, f: api.Point{X: 3, Y: 1}}
}

// outcome is the error of a call, and whether everything else of its result is zero.
type outcome struct {
	name string
	e    api.Errno
	zero bool
}

// outcomes calls everything that takes a patch and returns an error.
func outcomes(a arguments) []outcome {
	shut, e1 := level.Shut(a.p)
	mass, e2 := level.Mass(a.p)
	x, y, e3 := level.Momentum(a.p)
	after, e4 := level.Step(a.p, a.rules, a.t)
	run, e5 := level.Run(a.p, a.rules, a.t, a.n)
	entered, e6 := level.Enter(a.p, a.rules, a.t)
	left, e7 := level.Leave(a.p, a.rules, a.t)
	in, e8 := level.Inside(a.p, a.c)
	four, e9 := level.Fine(a.p, a.c)
	c, e10 := level.Coarse(a.p, a.f)
	return []outcome{
		{"Shut", e1, isZeroGrid(shut)},
		{"Mass", e2, mass == 0},
		{"Momentum", e3, x == 0 && y == 0},
		{"Step", e4, isZeroPatch(after)},
		{"Run", e5, isZeroPatch(run)},
		{"Enter", e6, entered == 0},
		{"Leave", e7, left == 0},
		{"Inside", e8, !in},
		{"Fine", e9, four == [4]int{}},
		{"Coarse", e10, c == api.Point{}},
	}
}

// wrong calls everything with arguments that some of the calls must refuse with an error, and all others take.
func wrong(t *testing.T, a arguments, e api.Errno, names ...string) {
	t.Helper()
	for _, o := range outcomes(a) {
		want := api.OK
		if slices.Contains(names, o.name) {
			want = e
		}
		if o.e != want {
			t.Errorf("%s: error %d, want %d", o.name, o.e, want)
		}
		if o.e != api.OK && !o.zero {
			t.Errorf("%s: a result beside the error %d", o.name, o.e)
		}
	}
}

// everything is the names of all calls of outcomes.
func everything() []string {
	return []string{"Shut", "Mass", "Momentum", "Step", "Run", "Enter", "Leave", "Inside", "Fine", "Coarse"}
}
