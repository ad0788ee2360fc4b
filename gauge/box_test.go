package gauge_test

import (
	"math"
	"testing"

	"slipstream/api"
	"slipstream/gauge"
	"slipstream/grid"
	"slipstream/wall"
)

func at(x, y int) api.Point { return api.Point{X: x, Y: y} }

func TestMomentum(t *testing.T) {
	g := empty(3, 2)
	g.Cells[0] = api.Cell{1, 2, 4, 8}
	g.Cells[1] = api.Cell{10, 20, 0, 0}
	g.Cells[2] = api.Cell{0, 0, 100, 200}
	g.Cells[4] = api.Cell{1000, 3000, 0, 0}
	for _, c := range []struct {
		a, b        api.Point
		east, north int
	}{
		{at(0, 0), at(0, 0), -3, -6}, {at(1, 0), at(1, 0), 10, 20}, {at(2, 0), at(2, 0), -100, -200}, {at(0, 1), at(0, 1), 0, 0},
		{at(0, 0), at(1, 0), 7, 14}, {at(1, 0), at(2, 0), -90, -180}, {at(1, 0), at(1, 1), 1010, 3020}, {at(0, 0), at(2, 1), 907, 2814},
		{at(2, 1), at(0, 0), 907, 2814}, {at(0, 1), at(2, 0), 907, 2814}, {at(2, 0), at(0, 1), 907, 2814}, {at(0, 1), at(1, 0), 1007, 3014},
	} {
		for axis, want := range []int{c.east, c.north} {
			if n, e := gauge.Momentum(g, c.a, c.b, axis); n != want || e != api.OK {
				t.Errorf("Momentum from %v to %v of the axis %d = %d, %d, want %d", c.a, c.b, axis, n, e, want)
			}
		}
	}
}

func TestMomentumAsWritten(t *testing.T) {
	for _, p := range places() {
		for _, c := range boxes(p.g) {
			for axis := range 2 {
				if n, e := gauge.Momentum(p.g, c.a, c.b, axis); n != momentumIn(p.g, c, axis) || e != api.OK {
					t.Fatalf("%d by %d: Momentum of %v = %d, %d, want %d", p.g.Wide, p.g.High, c, n, e, momentumIn(p.g, c, axis))
				}
			}
		}
	}
}

func TestMomentumErrors(t *testing.T) {
	g := filled(3, 2, 9, 1)
	for _, axis := range []int{-1, 2, 3, math.MinInt, math.MaxInt} {
		if n, e := gauge.Momentum(g, at(0, 0), at(1, 1), axis); n != 0 || e != api.ErrRange {
			t.Errorf("Momentum of the axis %d = %d, %d", axis, n, e)
		}
	}
	for _, p := range badPoints(g) {
		for _, c := range []corners{{p, at(1, 1)}, {at(1, 1), p}, {p, p}} {
			if n, e := gauge.Momentum(g, c.a, c.b, 0); n != 0 || e != api.ErrRange {
				t.Errorf("Momentum of %v = %d, %d", c, n, e)
			}
		}
	}
	for _, bad := range invalidGrids() {
		for _, axis := range []int{0, 1, 2} {
			if n, e := gauge.Momentum(bad, at(0, 0), at(0, 0), axis); n != 0 || e != api.ErrInvalid {
				t.Errorf("Momentum of %v = %d, %d", bad, n, e)
			}
			if n, e := gauge.Momentum(bad, at(-1, 0), at(0, math.MaxInt), axis); n != 0 || e != api.ErrInvalid {
				t.Errorf("Momentum of %v = %d, %d", bad, n, e)
			}
		}
	}
}

// TestFlux: cells round the box (1, 1) to (2, 2) on a grid of 4 by 4 send particles into it, past it, or nowhere near it.
func TestFlux(t *testing.T) {
	for _, c := range []struct {
		x, y, dir, axis, in, out int
	}{
		{0, 1, api.East, 0, 5, 0}, {0, 2, api.East, 0, 5, 0}, {3, 1, api.West, 0, -5, 0}, {3, 2, api.West, 0, -5, 0}, {2, 1, api.East, 0, 0, 5}, {2, 2, api.East, 0, 0, 5}, {1, 1, api.West, 0, 0, -5}, {1, 2, api.West, 0, 0, -5},
		{1, 0, api.North, 1, 5, 0}, {2, 0, api.North, 1, 5, 0}, {1, 3, api.South, 1, -5, 0}, {2, 3, api.South, 1, -5, 0}, {1, 2, api.North, 1, 0, 5}, {2, 2, api.North, 1, 0, 5}, {1, 1, api.South, 1, 0, -5}, {2, 1, api.South, 1, 0, -5},
		{1, 1, api.East, 0, 0, 0}, {2, 1, api.West, 0, 0, 0}, {1, 1, api.North, 1, 0, 0}, {1, 2, api.South, 1, 0, 0}, {0, 0, api.East, 0, 0, 0}, {0, 3, api.East, 0, 0, 0}, {3, 0, api.North, 1, 0, 0}, {0, 1, api.West, 0, 0, 0}, {3, 1, api.East, 0, 0, 0},
		{0, 1, api.East, 1, 0, 0}, {3, 1, api.West, 1, 0, 0}, {2, 1, api.East, 1, 0, 0}, {1, 0, api.North, 0, 0, 0}, {1, 3, api.South, 0, 0, 0}, {1, 2, api.North, 0, 0, 0}, {1, 1, api.South, 0, 0, 0},
	} {
		g := empty(4, 4)
		g.Cells[c.x+4*c.y][c.dir] = 5
		in, out, e := gauge.Flux(g, open(g), []api.Rule{turn()}, 3, at(1, 1), at(2, 2), c.axis)
		if in != c.in || out != c.out || e != api.OK {
			t.Errorf("%v: Flux = %d, %d, %d", c, in, out, e)
		}
	}
}

// TestFluxRoundTheSides: a box as wide as the grid keeps what goes round, one at a side does not.
func TestFluxRoundTheSides(t *testing.T) {
	g := empty(3, 3)
	for i := range g.Cells {
		g.Cells[i] = api.Cell{7, 7, 0, 0}
	}
	w, l := open(g), []api.Rule{none()}
	for _, c := range []struct {
		c             corners
		axis, in, out int
	}{
		{corners{at(0, 0), at(2, 2)}, 0, 0, 0}, {corners{at(0, 0), at(2, 2)}, 1, 0, 0}, {corners{at(0, 1), at(2, 1)}, 0, 0, 0}, {corners{at(0, 1), at(2, 1)}, 1, 21, 21}, {corners{at(1, 0), at(1, 2)}, 0, 21, 21}, {corners{at(1, 0), at(1, 2)}, 1, 0, 0},
		{corners{at(0, 0), at(1, 0)}, 0, 7, 7}, {corners{at(0, 0), at(0, 0)}, 0, 7, 7}, {corners{at(2, 2), at(2, 2)}, 1, 7, 7}, {corners{at(2, 0), at(1, 1)}, 0, 14, 14}, {corners{at(2, 0), at(1, 1)}, 1, 14, 14},
	} {
		in, out, e := gauge.Flux(g, w, l, 0, c.c.a, c.c.b, c.axis)
		if in != c.in || out != c.out || e != api.OK {
			t.Errorf("%v: Flux = %d, %d, %d", c, in, out, e)
		}
	}
}

// TestFluxAsWritten follows the particles, and holds the balance of each box against the impulse of the walls in it.
func TestFluxAsWritten(t *testing.T) {
	next := thrown(2)
	for _, p := range places() {
		for _, l := range validRules() {
			for _, step := range []int{0, 5, api.MaxStep} {
				after := place{done[api.Grid](t)(wall.Step(p.g, p.w, l, step)), p.w}
				for _, c := range boxes(p.g) {
					if step > 0 && c.a.X > c.b.X || len(p.g.Cells) > 64 && next(8) > 0 {
						continue
					}
					for axis := range 2 {
						in, out, e := gauge.Flux(p.g, p.w, l, step, c.a, c.b, axis)
						i, o := fluxOf(p, l, step, c, axis)
						if in != i || out != o || e != api.OK {
							t.Fatalf("%d by %d: Flux of %v = %d, %d, %d, want %d, %d", p.g.Wide, p.g.High, c, in, out, e, i, o)
						}
						if drag := momentumIn(p.g, c, axis) + in - out - momentumIn(after.g, c, axis); drag != -impulseIn(p, c, axis) {
							t.Fatalf("%d by %d: the drag in %v is %d, the impulse %d", p.g.Wide, p.g.High, c, drag, impulseIn(p, c, axis))
						}
					}
				}
			}
		}
	}
}

func TestFluxErrors(t *testing.T) {
	g := filled(3, 2, 9, 1)
	w, l := sparse(g, 3, 1), []api.Rule{turn()}
	wrong := func(p place, l []api.Rule, step int, c corners, axis int, want api.Errno) {
		t.Helper()
		if in, out, e := gauge.Flux(p.g, p.w, l, step, c.a, c.b, axis); in != 0 || out != 0 || e != want {
			t.Errorf("Flux in the step %d of %v, axis %d = %d, %d, %d, want %d", step, c, axis, in, out, e, want)
		}
	}
	good := corners{at(0, 0), at(1, 1)}
	for _, step := range []int{-1, api.MaxStep + 1, math.MinInt, math.MaxInt} {
		wrong(place{g, w}, l, step, good, 0, api.ErrRange)
	}
	for _, axis := range []int{-1, 2, math.MinInt, math.MaxInt} {
		wrong(place{g, w}, l, 0, good, axis, api.ErrRange)
	}
	for _, p := range badPoints(g) {
		for _, c := range []corners{{p, at(1, 1)}, {at(1, 1), p}, {p, p}} {
			wrong(place{g, w}, l, 0, c, 1, api.ErrRange)
			wrong(place{g, w}, nil, 0, c, 1, api.ErrInvalid)
		}
	}
	for _, bad := range invalidRules() {
		wrong(place{g, w}, bad, 0, good, 0, api.ErrInvalid)
		wrong(place{g, w}, bad, -1, good, 2, api.ErrInvalid)
	}
	for _, p := range invalidPlaces() {
		wrong(p, l, 0, corners{}, 0, api.ErrInvalid)
		wrong(p, l, -1, corners{at(-1, 0), at(0, math.MaxInt)}, 2, api.ErrInvalid)
	}
}

// toldOf adds up the fluxes of steps as section 'Boxes' writes it.
func toldOf(t *testing.T, p place, l []api.Rule, from, to int, c corners, axis int) api.Gauge {
	g := api.Gauge{From: from, To: to, Before: one(momentumIn(p.g, c, axis))}
	ins, outs := 0, 0
	for step := from; step < to; step++ {
		in, out := fluxOf(p, l, step, c, axis)
		ins, outs = ins+in, outs+out
		p.g = done[api.Grid](t)(wall.Step(p.g, p.w, l, step))
	}
	g.In, g.Out, g.After = one(ins), one(outs), one(momentumIn(p.g, c, axis))
	return g
}

func TestToldAsWritten(t *testing.T) {
	next := thrown(3)
	for _, p := range places() {
		all := boxes(p.g)
		for _, l := range validRules() {
			for _, x := range [][2]int{{0, 1}, {0, 2}, {5, 12}, {api.MaxStep - 1, api.MaxStep}} {
				c, axis := all[next(len(all))], next(2)
				want := toldOf(t, p, l, x[0], x[1], c, axis)
				g, e := gauge.Told(p.g, p.w, l, x[0], x[1], c.a, c.b, axis)
				if !gauge.Valid([]api.Gauge{want}) {
					if g != (api.Gauge{}) || e != api.ErrLimit {
						t.Fatalf("Told = %v, %d, want %v to be beyond the limit", g, e, want)
					}
				} else if g != want || e != api.OK {
					t.Fatalf("%d by %d: Told of %v from %d to %d = %v, %d, want %v", p.g.Wide, p.g.High, c, x[0], x[1], g, e, want)
				}
			}
		}
	}
}

// TestToldIsDrag: a box around a whole body alone tells the opposite of its drag, wherever its sides are.
func TestToldIsDrag(t *testing.T) {
	g := filled(12, 10, 50, 6)
	w := done[api.Wall](t)(wall.Open(g))
	w = done[api.Wall](t)(wall.Smooth(g, w, at(4, 5), 4, 3))
	w = done[api.Wall](t)(wall.Box(g, w, at(9, 9), at(11, 9), api.WBlash, 1))
	w = done[api.Wall](t)(wall.Slope(g, w, at(8, 1), 3, true, 7))
	for _, l := range validRules() {
		for _, x := range [][2]int{{0, 1}, {3, 4}, {0, 7}, {4, 40}, {api.MaxStep - 200, api.MaxStep}} {
			for _, b := range []struct {
				body int
				c    corners
			}{{3, corners{at(2, 3), at(6, 7)}}, {3, corners{at(0, 8), at(7, 0)}}, {1, corners{at(9, 9), at(11, 9)}}, {1, corners{at(11, 4), at(7, 9)}}, {7, corners{at(8, 3), at(11, 0)}}, {7, corners{at(10, 1), at(8, 3)}}} {
				p := done[api.Push](t)(wall.Drag(g, w, l, x[0], x[1]-x[0], b.body))
				for axis, n := range []int{p.East, p.North} {
					told := done[api.Gauge](t)(gauge.Told(g, w, l, x[0], x[1], b.c.a, b.c.b, axis))
					if s := done[api.Span](t)(gauge.Tells(told)); s != one(-n) {
						t.Errorf("the box %v tells %v from %d to %d, the drag of the body %d is %d", b.c, s, x[0], x[1], b.body, n)
					}
				}
			}
			for _, c := range []corners{{at(0, 0), at(0, 9)}, {at(0, 0), at(7, 2)}, {at(11, 4), at(8, 8)}} {
				for axis := range 2 {
					told := done[api.Gauge](t)(gauge.Told(g, w, l, x[0], x[1], c.a, c.b, axis))
					if s := done[api.Span](t)(gauge.Tells(told)); s != one(0) {
						t.Errorf("the box %v without walls tells %v", c, s)
					}
				}
			}
		}
	}
}

// TestToldJoined: what is told of some steps and of the ones behind them is, joined, what is told of all.
func TestToldJoined(t *testing.T) {
	g := filled(6, 5, 9, 2)
	w, l := sparse(g, 4, 3), []api.Rule{turn(), shift(2)}
	half := done[api.Grid](t)(wall.Run(g, w, l, 10, 5))
	for _, c := range boxes(g) {
		a := done[api.Gauge](t)(gauge.Told(g, w, l, 10, 15, c.a, c.b, 1))
		b := done[api.Gauge](t)(gauge.Told(half, w, l, 15, 23, c.a, c.b, 1))
		all := done[api.Gauge](t)(gauge.Told(g, w, l, 10, 23, c.a, c.b, 1))
		if j, e := gauge.Joined(a, b); j != all || e != api.OK {
			t.Fatalf("%v: Joined = %v, %d, want %v", c, j, e, all)
		}
	}
}

// TestToldLimit lets all particles that can be go round three cells, so that they come into each of them in every third step.
func TestToldLimit(t *testing.T) {
	for dir := range 4 {
		g := empty(3, 1)
		if dir%2 == 1 {
			g = empty(1, 3)
		}
		axis := dir % 2
		next := [4]int{1, 1, 2, 2}[dir]
		ahead := api.Point{X: next * (1 - axis), Y: next * axis}
		full := done[api.Grid](t)(grid.Put(g, api.Point{}, dir, api.MaxMass))
		some := done[api.Grid](t)(grid.Put(g, api.Point{}, dir, api.MaxMass/2))
		for _, c := range []struct {
			g    api.Grid
			at   api.Point
			to   int
			want api.Errno
		}{
			{full, ahead, 1, api.OK}, {full, ahead, 3, api.OK}, {full, ahead, 4, api.ErrLimit}, {full, ahead, 5, api.ErrLimit}, {full, ahead, 1000, api.ErrLimit},
			{full, api.Point{}, 1, api.OK}, {full, api.Point{}, 3, api.OK}, {full, api.Point{}, 4, api.ErrLimit}, {full, api.Point{}, 6, api.ErrLimit},
			{some, ahead, 6, api.OK}, {some, ahead, 7, api.ErrLimit}, {some, api.Point{}, 6, api.OK}, {some, api.Point{}, 7, api.ErrLimit},
		} {
			want := toldOf(t, place{c.g, open(g)}, []api.Rule{none()}, 0, c.to, corners{c.at, c.at}, axis)
			if c.want != api.OK {
				want = api.Gauge{}
			}
			if x, e := gauge.Told(c.g, open(g), []api.Rule{none()}, 0, c.to, c.at, c.at, axis); x != want || e != c.want {
				t.Errorf("Told to %d at %v = %v, %d, want %d", c.to, c.at, x, e, c.want)
			}
		}
	}
}

// TestToldBackAgain: two mirrors lead all particles through the box a second time, and a wall sends them back the same way. What came in is beyond the limit in between, and 0 in the end.
func TestToldBackAgain(t *testing.T) {
	g := empty(5, 2)
	g.Cells[0] = api.Cell{api.MaxMass}
	w := open(g)
	w.Kind[3], w.Body[3] = api.WSlash, 1
	w.Kind[8], w.Body[8] = api.WSlash, 1
	w.Kind[7], w.Body[7] = api.WBack, 2
	l := []api.Rule{none()}
	for to := 1; to <= 24; to++ {
		want, wantError := toldOf(t, place{g, w}, l, 0, to, corners{at(1, 0), at(1, 1)}, 0), api.OK
		if 7 <= to && to <= 9 {
			want, wantError = api.Gauge{}, api.ErrLimit
		}
		if x, e := gauge.Told(g, w, l, 0, to, at(1, 0), at(1, 1), 0); x != want || e != wantError {
			t.Errorf("Told to %d = %v, %d, want %v, %d", to, x, e, want, wantError)
		}
	}
}

func TestToldErrors(t *testing.T) {
	g := filled(3, 2, 9, 1)
	w, l := sparse(g, 3, 1), []api.Rule{turn()}
	wrong := func(p place, l []api.Rule, from, to int, c corners, axis int, want api.Errno) {
		t.Helper()
		x, e := gauge.Told(p.g, p.w, l, from, to, c.a, c.b, axis)
		if e != want || (x == api.Gauge{}) != (e != api.OK) {
			t.Errorf("Told from %d to %d of %v, axis %d = %v, %d, want %d", from, to, c, axis, x, e, want)
		}
	}
	good := corners{at(0, 0), at(1, 1)}
	for _, x := range [][2]int{{0, 1}, {0, api.MaxSteps}, {1, api.MaxSteps + 1}, {api.MaxStep - api.MaxSteps, api.MaxStep}, {api.MaxStep - 1, api.MaxStep}} {
		wrong(place{g, w}, l, x[0], x[1], good, 0, api.OK)
	}
	for _, x := range append(badStretches(), [2]int{0, api.MaxSteps + 1}, [2]int{5, api.MaxSteps + 6}, [2]int{0, api.MaxStep}, [2]int{api.MaxStep - 999, api.MaxStep + 1}) {
		wrong(place{g, w}, l, x[0], x[1], good, 0, api.ErrRange)
		wrong(place{g, w}, nil, x[0], x[1], good, 0, api.ErrInvalid)
		wrong(place{g, api.Wall{}}, l, x[0], x[1], good, 2, api.ErrInvalid)
	}
	for _, axis := range []int{-1, 2, math.MinInt, math.MaxInt} {
		wrong(place{g, w}, l, 0, 1, good, axis, api.ErrRange)
	}
	for _, p := range badPoints(g) {
		for _, c := range []corners{{p, at(1, 1)}, {at(1, 1), p}, {p, p}} {
			wrong(place{g, w}, l, 0, 1, c, 1, api.ErrRange)
			wrong(place{g, w}, nil, 0, 1, c, 1, api.ErrInvalid)
		}
	}
	for _, bad := range invalidRules() {
		wrong(place{g, w}, bad, 0, 1, good, 0, api.ErrInvalid)
		wrong(place{g, w}, bad, -1, 1, good, 2, api.ErrInvalid)
	}
	for _, p := range invalidPlaces() {
		wrong(p, l, 0, 1, corners{}, 0, api.ErrInvalid)
		wrong(p, l, 1, 0, corners{at(-1, 0), at(0, math.MaxInt)}, 2, api.ErrInvalid)
	}
	// A range that is wrong comes before a number that is too much.
	full := empty(3, 1)
	full.Cells[0][api.East] = api.MaxMass
	wrong(place{full, open(full)}, l, 0, 9, corners{}, 2, api.ErrRange)
	wrong(place{full, open(full)}, l, 0, 1001, corners{}, 0, api.ErrRange)
	wrong(place{full, open(full)}, l, 0, 9, corners{}, 0, api.ErrLimit)
}
