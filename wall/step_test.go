package wall_test

import (
	"math"
	"testing"

	"slipstream/api"
	"slipstream/grid"
	"slipstream/wall"
)

func single(x, y, kind, body int, g api.Grid) api.Wall {
	w := opened(g)
	w.Kind[x+g.Wide*y], w.Body[x+g.Wide*y] = kind, body
	return w
}

func put(t *testing.T, g api.Grid, x, y, dir, n int) api.Grid {
	t.Helper()
	return done[api.Grid](t)(grid.Put(g, api.Point{X: x, Y: y}, dir, n))
}

func TestStepExamples(t *testing.T) {
	empty := filled(3, 3, 1, 0)
	l := []api.Rule{none()}
	g := put(t, empty, 0, 1, api.East, 1)
	back, slash := single(1, 1, api.WBack, 1, g), single(1, 1, api.WSlash, 2, g)
	for _, w := range []api.Wall{back, slash} {
		if h := done[api.Grid](t)(wall.Step(g, w, l, 0)); !equal(h, put(t, empty, 1, 1, api.East, 1)) {
			t.Errorf("Step = %v", h)
		}
	}
	if p, e := wall.Impulse(g, back, 1); p != (api.Push{}) || e != api.OK {
		t.Errorf("Impulse = %v, %d", p, e)
	}
	g = put(t, empty, 1, 1, api.East, 1)
	if h := done[api.Grid](t)(wall.Step(g, back, l, 1)); !equal(h, put(t, empty, 0, 1, api.West, 1)) {
		t.Errorf("Step = %v", h)
	}
	if p, e := wall.Impulse(g, back, 1); p != (api.Push{East: -2}) || e != api.OK {
		t.Errorf("Impulse = %v, %d", p, e)
	}
	if h := done[api.Grid](t)(wall.Step(g, slash, l, 1)); !equal(h, put(t, empty, 1, 2, api.North, 1)) {
		t.Errorf("Step = %v", h)
	}
	if p, e := wall.Impulse(g, slash, 2); p != (api.Push{East: -1, North: 1}) || e != api.OK {
		t.Errorf("Impulse = %v, %d", p, e)
	}
	blash := single(1, 1, api.WBlash, 3, g)
	if h := done[api.Grid](t)(wall.Step(g, blash, l, 1)); !equal(h, put(t, empty, 1, 0, api.South, 1)) {
		t.Errorf("Step = %v", h)
	}
	if p, e := wall.Impulse(g, blash, 3); p != (api.Push{East: -1, North: -1}) || e != api.OK {
		t.Errorf("Impulse = %v, %d", p, e)
	}
}

// TestWallsDoNotCollide: two that meet in a cell of a wall are sent, and do not obey the rule.
func TestWallsDoNotCollide(t *testing.T) {
	empty := filled(3, 3, 1, 0)
	meet := put(t, put(t, empty, 1, 1, api.East, 2), 1, 1, api.West, 2)
	want := put(t, put(t, empty, 2, 1, api.East, 2), 0, 1, api.West, 2)
	if h := done[api.Grid](t)(wall.Step(meet, single(1, 1, api.WBack, 1, meet), []api.Rule{turn()}, 0)); !equal(h, want) {
		t.Errorf("Step = %v", h)
	}
	want = put(t, put(t, empty, 1, 2, api.North, 2), 1, 0, api.South, 2)
	if h := done[api.Grid](t)(wall.Step(meet, opened(meet), []api.Rule{turn()}, 0)); !equal(h, want) {
		t.Errorf("Step = %v", h)
	}
}

func TestStepAsWritten(t *testing.T) {
	for _, x := range places() {
		for _, l := range validRules() {
			for _, step := range []int{0, 1, 7, 999999, api.MaxStep} {
				h := done[api.Grid](t)(wall.Step(x.g, x.w, l, step))
				if !equal(h, stepped(x.g, x.w, l, step)) {
					t.Fatalf("Step %d of %d by %d with %v is not as written", step, x.g.Wide, x.g.High, l)
				}
				if !equal(done[api.Grid](t)(wall.Back(h, x.w, l, step)), x.g) {
					t.Fatalf("Back(Step) %d of %d by %d with %v is another grid", step, x.g.Wide, x.g.High, l)
				}
				if b := done[api.Grid](t)(wall.Back(x.g, x.w, l, step)); !equal(stepped(b, x.w, l, step), x.g) {
					t.Fatalf("Step(Back) %d of %d by %d with %v is another grid", step, x.g.Wide, x.g.High, l)
				}
			}
		}
	}
}

func TestRunAndUndo(t *testing.T) {
	for _, x := range smallPlaces() {
		for _, l := range validRules() {
			h := x.g
			for n := range 12 {
				if !equal(done[api.Grid](t)(wall.Run(x.g, x.w, l, 5, n)), h) {
					t.Fatalf("Run of %d of %d by %d with %v is not %d steps", n, x.g.Wide, x.g.High, l, n)
				}
				if !equal(done[api.Grid](t)(wall.Undo(h, x.w, l, 5, n)), x.g) {
					t.Fatalf("Undo(Run) of %d of %d by %d with %v is another grid", n, x.g.Wide, x.g.High, l)
				}
				h = stepped(h, x.w, l, 5+n)
			}
		}
	}
}

func TestLongRun(t *testing.T) {
	for _, s := range [][2]int{{5, 4}, {32, 32}} {
		g := filled(s[0], s[1], 1000, 3)
		w := sparse(g, 5, 8)
		l := []api.Rule{shift(3), turn(), shift(-2)}
		first := api.MaxStep - api.MaxSteps + 1
		h := done[api.Grid](t)(wall.Run(g, w, l, first, api.MaxSteps))
		if equal(h, g) || mass(h) != mass(g) {
			t.Errorf("%v: Run gives the grid itself, or another mass", s)
		}
		if !equal(done[api.Grid](t)(wall.Undo(h, w, l, first, api.MaxSteps)), g) {
			t.Errorf("%v: Undo(Run) is another grid", s)
		}
		half := done[api.Grid](t)(wall.Run(g, w, l, first, 400))
		if !equal(done[api.Grid](t)(wall.Run(half, w, l, first+400, 600)), h) {
			t.Errorf("%v: Run of 400 and of 600 is not that of 1000", s)
		}
	}
}

func TestWithoutWalls(t *testing.T) {
	for _, s := range sides() {
		g := filled(s[0], s[1], 7, 2)
		w := done[api.Wall](t)(wall.Open(g))
		for _, l := range validRules() {
			for _, n := range []int{0, 1, 9} {
				for i, want := range []func(g api.Grid) (api.Grid, api.Errno){
					func(g api.Grid) (api.Grid, api.Errno) { return grid.Step(g, l, 4) },
					func(g api.Grid) (api.Grid, api.Errno) { return grid.Back(g, l, 4) },
					func(g api.Grid) (api.Grid, api.Errno) { return grid.Run(g, l, 4, n) },
					func(g api.Grid) (api.Grid, api.Errno) { return grid.Undo(g, l, 4, n) },
				} {
					c := gridCalls(l, 4, n)[i]
					if !equal(done[api.Grid](t)(c.do(g, w)), done[api.Grid](t)(want(g))) {
						t.Errorf("%s of %v without walls with %v is not that of layer 2", c.name, s, l)
					}
				}
			}
		}
	}
}

// TestKeptAndGiven: the mass stays, and the momentum grows by what all bodies give.
func TestKeptAndGiven(t *testing.T) {
	for _, x := range places() {
		for _, l := range validRules() {
			h := done[api.Grid](t)(wall.Step(x.g, x.w, l, 2))
			want := momentum(x.g)
			for _, body := range done[[]int](t)(wall.Bodies(x.g, x.w)) {
				p := done[api.Push](t)(wall.Impulse(x.g, x.w, body))
				want.East += p.East
				want.North += p.North
			}
			if mass(h) != mass(x.g) || momentum(h) != want {
				t.Fatalf("%d by %d: mass %d and momentum %v, want %d and %v", x.g.Wide, x.g.High, mass(h), momentum(h), mass(x.g), want)
			}
		}
	}
}

func TestImpulseAsWritten(t *testing.T) {
	for _, x := range places() {
		for body := 1; body <= api.MaxBodies; body++ {
			want := api.OK
			if !hasBody(x.w, body) {
				want = api.ErrNone
			}
			if p, e := wall.Impulse(x.g, x.w, body); p != given(x.g, x.w, body) || e != want {
				t.Fatalf("Impulse of the body %d = %v, %d, want %v, %d", body, p, e, given(x.g, x.w, body), want)
			}
		}
	}
}

func hasBody(w api.Wall, body int) bool {
	for _, b := range w.Body {
		if b == body {
			return true
		}
	}
	return false
}

// TestImpulseOfKinds: what each kind gives, by the momentum that its cells have.
func TestImpulseOfKinds(t *testing.T) {
	for _, s := range sides() {
		g := filled(s[0], s[1], 999, 4)
		has := momentum(g)
		back := done[api.Push](t)(wall.Impulse(g, uniform(g, api.WBack, 3), 3))
		if back != (api.Push{East: -2 * has.East, North: -2 * has.North}) {
			t.Errorf("WBack gives %v to %v", back, has)
		}
		slash := done[api.Push](t)(wall.Impulse(g, uniform(g, api.WSlash, 3), 3))
		if slash != (api.Push{East: has.North - has.East, North: has.East - has.North}) {
			t.Errorf("WSlash gives %v to %v", slash, has)
		}
		blash := done[api.Push](t)(wall.Impulse(g, uniform(g, api.WBlash, 3), 3))
		if blash != (api.Push{East: -has.North - has.East, North: -has.East - has.North}) {
			t.Errorf("WBlash gives %v to %v", blash, has)
		}
	}
}

func TestGreatestImpulse(t *testing.T) {
	g := api.Grid{Wide: 1, High: 1, Cells: []api.Cell{{0, 0, api.MaxMass}}}
	w := uniform(g, api.WBack, 1)
	if p := done[api.Push](t)(wall.Impulse(g, w, 1)); p != (api.Push{East: 2 * api.MaxMass}) {
		t.Errorf("Impulse = %v", p)
	}
	// The particles come back in every step, so that every second impulse is the opposite.
	for n, want := range []int{0, 2 * api.MaxMass, 0, 2 * api.MaxMass} {
		if p := done[api.Push](t)(wall.Drag(g, w, []api.Rule{turn()}, 0, n, 1)); p != (api.Push{East: want}) {
			t.Errorf("Drag over %d = %v", n, p)
		}
	}
}

// TestDragIsMore: what comes along a row of particles gives its impulse step after step, together beyond MaxMass.
func TestDragIsMore(t *testing.T) {
	g := filled(64, 1, 1, 0)
	for x := range 63 {
		g.Cells[x] = api.Cell{10000000}
	}
	w := single(63, 0, api.WBack, 2, g)
	sum := api.Push{}
	h := g
	for n := range 200 {
		if p := done[api.Push](t)(wall.Drag(g, w, []api.Rule{none()}, 3, n, 2)); p != sum {
			t.Fatalf("Drag over %d = %v, want %v", n, p, sum)
		}
		p := given(h, w, 2)
		sum = api.Push{East: sum.East + p.East, North: sum.North + p.North}
		h = stepped(h, w, []api.Rule{none()}, 3+n)
	}
	if p := done[api.Push](t)(wall.Drag(g, w, []api.Rule{none()}, 3, 64, 2)); p.East != -63*2*10000000 {
		t.Errorf("Drag = %v", p)
	}
}

func TestDragAddsUp(t *testing.T) {
	for _, x := range smallPlaces() {
		for _, l := range validRules() {
			half := done[api.Grid](t)(wall.Run(x.g, x.w, l, 6, 4))
			sum := momentum(x.g)
			for _, body := range done[[]int](t)(wall.Bodies(x.g, x.w)) {
				a := done[api.Push](t)(wall.Drag(x.g, x.w, l, 6, 4, body))
				b := done[api.Push](t)(wall.Drag(half, x.w, l, 10, 3, body))
				c := done[api.Push](t)(wall.Drag(x.g, x.w, l, 6, 7, body))
				if c != (api.Push{East: a.East + b.East, North: a.North + b.North}) {
					t.Fatalf("Drag over 4 is %v, over 3 %v, over 7 %v", a, b, c)
				}
				if d := done[api.Push](t)(wall.Drag(x.g, x.w, l, 6, 1, body)); d != given(x.g, x.w, body) {
					t.Fatalf("Drag over 1 is %v", d)
				}
				if d := done[api.Push](t)(wall.Drag(x.g, x.w, l, 6, 0, body)); d != (api.Push{}) {
					t.Fatalf("Drag over 0 is %v", d)
				}
				sum = api.Push{East: sum.East + c.East, North: sum.North + c.North}
			}
			if h := done[api.Grid](t)(wall.Run(x.g, x.w, l, 6, 7)); momentum(h) != sum {
				t.Fatalf("momentum %v after 7 steps, want %v", momentum(h), sum)
			}
		}
	}
}

func TestStepErrors(t *testing.T) {
	g := filled(3, 2, 4, 1)
	w := uniform(g, api.WBlash, 2)
	l := []api.Rule{turn(), shift(1)}
	for _, x := range []struct {
		t, n int
		e    api.Errno
	}{
		{0, 0, api.OK}, {0, api.MaxSteps, api.OK}, {api.MaxStep, 1, api.OK}, {api.MaxStep, 0, api.OK}, {api.MaxStep - 999, 1000, api.OK},
		{-1, 0, api.ErrRange}, {-1, 1, api.ErrRange}, {0, -1, api.ErrRange}, {0, api.MaxSteps + 1, api.ErrRange}, {api.MaxStep + 1, 0, api.ErrRange}, {api.MaxStep + 1, 1, api.ErrRange},
		{api.MaxStep, 2, api.ErrRange}, {api.MaxStep - 998, 1000, api.ErrRange}, {math.MinInt, 1, api.ErrRange}, {math.MaxInt, 1, api.ErrRange},
		{math.MaxInt, math.MaxInt, api.ErrRange}, {0, math.MinInt, api.ErrRange}, {1, math.MaxInt, api.ErrRange}, {math.MinInt, math.MinInt, api.ErrRange},
	} {
		for _, c := range gridCalls(l, x.t, x.n)[2:] {
			if h, e := c.do(g, w); e != x.e || e != api.OK && !isZero(h) || e == api.OK && !grid.Valid(h) {
				t.Errorf("%s from %d of %d: %v, %d, want %d", c.name, x.t, x.n, h, e, x.e)
			}
		}
		for body, e := range []api.Errno{0: api.ErrRange, 1: api.ErrNone, 2: api.OK, 9: api.ErrNone, 10: api.ErrRange} {
			if body > 2 && body < 9 {
				continue
			}
			if x.e != api.OK {
				e = x.e
			}
			if p, f := wall.Drag(g, w, l, x.t, x.n, body); f != e || e != api.OK && p != (api.Push{}) {
				t.Errorf("Drag of %d from %d of %d: %v, %d, want %d", body, x.t, x.n, p, f, e)
			}
		}
		for _, bad := range invalidRules() {
			for _, c := range gridCalls(bad, x.t, x.n) {
				if h, e := c.do(g, w); e != api.ErrInvalid || !isZero(h) {
					t.Errorf("%s from %d of %d with %v: %v, %d", c.name, x.t, x.n, bad, h, e)
				}
			}
			for _, body := range []int{1, 2, 10} {
				if p, e := wall.Drag(g, w, bad, x.t, x.n, body); e != api.ErrInvalid || p != (api.Push{}) {
					t.Errorf("Drag with %v: %v, %d", bad, p, e)
				}
			}
		}
	}
	for _, step := range append(badNumbers(), api.MaxStep+1) {
		for _, c := range gridCalls(l, step, 1)[:2] {
			if h, e := c.do(g, w); e != api.ErrRange || !isZero(h) {
				t.Errorf("%s %d: %v, %d", c.name, step, h, e)
			}
		}
	}
	for _, body := range append(badNumbers(), 0, api.MaxBodies+1) {
		if p, e := wall.Impulse(g, w, body); e != api.ErrRange || p != (api.Push{}) {
			t.Errorf("Impulse of %d: %v, %d", body, p, e)
		}
		if p, e := wall.Drag(g, w, l, 0, 1, body); e != api.ErrRange || p != (api.Push{}) {
			t.Errorf("Drag of %d: %v, %d", body, p, e)
		}
	}
}
