package grid_test

import (
	"math"
	"testing"

	"slipstream/api"
	"slipstream/cell"
	"slipstream/grid"
)

func TestStream(t *testing.T) {
	for _, g := range validGrids() {
		h := done(t)(grid.Stream(g))
		if !equal(h, streamed(g)) {
			t.Errorf("Stream of %d by %d is not as written", g.Wide, g.High)
		}
		if !equal(done(t)(grid.Unstream(h)), g) {
			t.Errorf("Unstream(Stream) of %d by %d is another grid", g.Wide, g.High)
		}
		if !equal(done(t)(grid.Stream(done(t)(grid.Unstream(g)))), g) {
			t.Errorf("Stream(Unstream) of %d by %d is another grid", g.Wide, g.High)
		}
	}
}

func TestStreamExamples(t *testing.T) {
	g := put(t, filled(3, 3, 1, 0), 0, 0, api.East, 1)
	g = put(t, g, 0, 0, api.North, 2)
	g = put(t, g, 0, 0, api.West, 3)
	g = put(t, g, 0, 0, api.South, 4)
	forth := api.Grid{Wide: 3, High: 3, Cells: []api.Cell{{}, {1}, {0, 0, 3}, {0, 2}, {}, {}, {0, 0, 0, 4}, {}, {}}}
	if h := done(t)(grid.Stream(g)); !equal(h, forth) {
		t.Errorf("Stream = %v", h)
	}
	back := api.Grid{Wide: 3, High: 3, Cells: []api.Cell{{}, {0, 0, 3}, {1}, {0, 0, 0, 4}, {}, {}, {0, 2}, {}, {}}}
	if h := done(t)(grid.Unstream(g)); !equal(h, back) {
		t.Errorf("Unstream = %v", h)
	}
	column := api.Grid{Wide: 1, High: 2, Cells: []api.Cell{{5, 6, 7, 8}, {1, 2, 3, 4}}}
	want := api.Grid{Wide: 1, High: 2, Cells: []api.Cell{{5, 2, 7, 4}, {1, 6, 3, 8}}}
	if h := done(t)(grid.Stream(column)); !equal(h, want) {
		t.Errorf("Stream of one column = %v", h)
	}
	row := api.Grid{Wide: 2, High: 1, Cells: []api.Cell{{5, 6, 7, 8}, {1, 2, 3, 4}}}
	want = api.Grid{Wide: 2, High: 1, Cells: []api.Cell{{1, 6, 3, 8}, {5, 2, 7, 4}}}
	if h := done(t)(grid.Stream(row)); !equal(h, want) {
		t.Errorf("Stream of one row = %v", h)
	}
}

func TestStepExamples(t *testing.T) {
	g := put(t, filled(3, 1, 1, 0), 0, 0, api.East, 1)
	if h := done(t)(grid.Step(g, []api.Rule{none()}, 0)); !equal(h, put(t, filled(3, 1, 1, 0), 1, 0, api.East, 1)) {
		t.Errorf("Step = %v", h)
	}
	if h := done(t)(grid.Run(g, []api.Rule{none()}, 0, 3)); !equal(h, g) {
		t.Errorf("Run = %v", h)
	}
	meet := put(t, put(t, filled(3, 3, 1, 0), 1, 1, api.East, 1), 1, 1, api.West, 1)
	want := put(t, put(t, filled(3, 3, 1, 0), 1, 2, api.North, 1), 1, 0, api.South, 1)
	if h := done(t)(grid.Step(meet, []api.Rule{turn()}, 0)); !equal(h, want) {
		t.Errorf("Step = %v", h)
	}
}

func TestStepAsWritten(t *testing.T) {
	for _, g := range validGrids() {
		for _, l := range validRules() {
			for _, step := range []int{0, 1, 2, 3, 7, 8, 999999, api.MaxStep} {
				h := done(t)(grid.Step(g, l, step))
				if !equal(h, stepped(t, g, l, step)) {
					t.Fatalf("Step %d of %d by %d with %v is not as written", step, g.Wide, g.High, l)
				}
				if !equal(done(t)(grid.Back(h, l, step)), g) {
					t.Fatalf("Back(Step) %d of %d by %d with %v is another grid", step, g.Wide, g.High, l)
				}
				if b := done(t)(grid.Back(g, l, step)); !equal(stepped(t, b, l, step), g) {
					t.Fatalf("Step(Back) %d of %d by %d with %v is another grid", step, g.Wide, g.High, l)
				}
			}
		}
	}
}

func TestStepKeepsMassAndMomentum(t *testing.T) {
	for _, g := range validGrids() {
		mass, _ := grid.Mass(g)
		east, north, _ := grid.Momentum(g)
		for _, l := range validRules() {
			for _, h := range []api.Grid{done(t)(grid.Step(g, l, 2)), done(t)(grid.Back(g, l, 2)), done(t)(grid.Run(g, l, 2, 9))} {
				n, e := grid.Mass(h)
				x, y, _ := grid.Momentum(h)
				if e != api.OK || n != mass || x != east || y != north {
					t.Errorf("%d by %d with %v: mass %d, momentum %d, %d, was %d, %d, %d", g.Wide, g.High, l, n, x, y, mass, east, north)
				}
			}
		}
	}
}

func TestRunAsWritten(t *testing.T) {
	for _, g := range smallGrids() {
		for _, l := range validRules() {
			for _, first := range []int{0, 1, 5, api.MaxStep - 11} {
				h := g
				for n := range 13 {
					r := done(t)(grid.Run(g, l, first, n))
					if !equal(r, h) {
						t.Fatalf("Run from %d of %d steps with %v is not as written", first, n, l)
					}
					if !equal(done(t)(grid.Undo(r, l, first, n)), g) {
						t.Fatalf("Undo(Run) from %d of %d steps with %v is another grid", first, n, l)
					}
					h = stepped(t, h, l, first+n)
				}
			}
		}
	}
}

func TestRunInParts(t *testing.T) {
	for _, g := range smallGrids() {
		for _, l := range validRules() {
			for _, x := range [][3]int{{0, 3, 4}, {5, 0, 6}, {2, 7, 0}, {1, 1, 1}, {0, 40, 60}} {
				first, m, n := x[0], x[1], x[2]
				parts := done(t)(grid.Run(done(t)(grid.Run(g, l, first, m)), l, first+m, n))
				if !equal(parts, done(t)(grid.Run(g, l, first, m+n))) {
					t.Errorf("Run from %d of %d and %d steps with %v is not that of all", first, m, n, l)
				}
				if !equal(done(t)(grid.Undo(done(t)(grid.Undo(parts, l, first+m, n)), l, first, m)), g) {
					t.Errorf("Undo from %d of %d and %d steps with %v is another grid", first, n, m, l)
				}
			}
		}
	}
}

func TestLongestRun(t *testing.T) {
	g, l := filled(32, 32, 50, 3), []api.Rule{shift(5), turn(), shift(-17)}
	h := done(t)(grid.Run(g, l, api.MaxStep-api.MaxSteps+1, api.MaxSteps))
	if equal(h, g) {
		t.Error("the grid has not changed")
	}
	if !equal(done(t)(grid.Undo(h, l, api.MaxStep-api.MaxSteps+1, api.MaxSteps)), g) {
		t.Error("Undo(Run) is another grid")
	}
}

func TestRunErrors(t *testing.T) {
	g, l := filled(3, 2, 4, 1), []api.Rule{turn(), shift(1)}
	for _, x := range []struct {
		t, n int
		want api.Errno
	}{
		{0, 0, api.OK}, {api.MaxStep, 0, api.OK}, {api.MaxStep, 1, api.OK}, {0, api.MaxSteps, api.OK}, {api.MaxStep - 999, 1000, api.OK},
		{-1, 0, api.ErrRange}, {-1, 1, api.ErrRange}, {-1, 5, api.ErrRange}, {api.MaxStep + 1, 0, api.ErrRange}, {api.MaxStep + 1, 1, api.ErrRange},
		{0, -1, api.ErrRange}, {5, -1, api.ErrRange}, {0, api.MaxSteps + 1, api.ErrRange},
		{api.MaxStep, 2, api.ErrRange}, {api.MaxStep - 998, 1000, api.ErrRange}, {api.MaxStep - 1, 3, api.ErrRange},
		{math.MinInt, 1, api.ErrRange}, {math.MaxInt, 1, api.ErrRange}, {math.MaxInt, math.MaxInt, api.ErrRange},
		{0, math.MinInt, api.ErrRange}, {0, math.MaxInt, api.ErrRange}, {1, math.MaxInt, api.ErrRange}, {math.MinInt, math.MinInt, api.ErrRange},
	} {
		for _, do := range []func(api.Grid, []api.Rule, int, int) (api.Grid, api.Errno){grid.Run, grid.Undo} {
			h, e := do(g, l, x.t, x.n)
			if e != x.want || e != api.OK && !isZero(h) || e == api.OK && !grid.Valid(h) {
				t.Errorf("from %d %d steps: %v, %d, want %d", x.t, x.n, h, e, x.want)
			}
			for _, bad := range invalidRules() {
				if h, e := do(g, bad, x.t, x.n); !isZero(h) || e != api.ErrInvalid {
					t.Errorf("from %d %d steps with %v: %v, %d", x.t, x.n, bad, h, e)
				}
			}
		}
	}
}

func TestStepErrors(t *testing.T) {
	g, l := filled(3, 2, 4, 1), []api.Rule{turn(), shift(1)}
	for _, do := range []func(api.Grid, []api.Rule, int) (api.Grid, api.Errno){grid.Step, grid.Back} {
		for _, step := range []int{-1, api.MaxStep + 1, math.MinInt, math.MaxInt} {
			if h, e := do(g, l, step); !isZero(h) || e != api.ErrRange {
				t.Errorf("step %d: %v, %d", step, h, e)
			}
			for _, bad := range invalidRules() {
				if h, e := do(g, bad, step); !isZero(h) || e != api.ErrInvalid {
					t.Errorf("step %d with %v: %v, %d", step, bad, h, e)
				}
			}
		}
		for _, bad := range invalidRules() {
			if h, e := do(g, bad, 0); !isZero(h) || e != api.ErrInvalid {
				t.Errorf("step 0 with %v: %v, %d", bad, h, e)
			}
		}
	}
}

func TestReversed(t *testing.T) {
	for _, g := range validGrids() {
		r := done(t)(grid.Reversed(g))
		for i, c := range g.Cells {
			if r.Cells[i] != (api.Cell{c[2], c[3], c[0], c[1]}) {
				t.Fatalf("Reversed: %v became %v", c, r.Cells[i])
			}
		}
		if r.Wide != g.Wide || r.High != g.High || !equal(done(t)(grid.Reversed(r)), g) {
			t.Errorf("reversed twice %d by %d is another grid", g.Wide, g.High)
		}
		back := done(t)(grid.Reversed(streamed(r)))
		if !equal(back, done(t)(grid.Unstream(g))) {
			t.Errorf("Unstream of %d by %d is not Stream of the reversed grid, reversed", g.Wide, g.High)
		}
		for _, l := range validRules() {
			want := api.Grid{Wide: g.Wide, High: g.High}
			for _, c := range back.Cells {
				d, _ := cell.Undo(c, l[0])
				want.Cells = append(want.Cells, d)
			}
			if !equal(done(t)(grid.Back(g, l, 0)), want) {
				t.Errorf("Back of %d by %d with %v is not as by reversing", g.Wide, g.High, l)
			}
		}
	}
}

func TestPeriodExamples(t *testing.T) {
	row := put(t, filled(3, 1, 1, 0), 0, 0, api.East, 1)
	cross := put(t, put(t, filled(31, 32, 1, 0), 3, 4, api.East, 1), 5, 6, api.North, 2)
	long := put(t, put(t, filled(33, 31, 1, 0), 3, 4, api.East, 1), 5, 6, api.North, 2)
	meet := put(t, put(t, filled(1, 1, 1, 0), 0, 0, api.East, 1), 0, 0, api.West, 1)
	for _, x := range []struct {
		g    api.Grid
		r    api.Rule
		most int
		want int
		e    api.Errno
	}{
		{row, none(), 10, 3, api.OK},
		{row, none(), 3, 3, api.OK},
		{row, none(), 2, 0, api.ErrNone},
		{row, none(), 1, 0, api.ErrNone},
		{row, turn(), api.MaxSteps, 3, api.OK},
		{filled(4, 4, 1, 0), shift(2), 1, 1, api.OK},
		{cross, none(), api.MaxSteps, 992, api.OK},
		{cross, none(), 992, 992, api.OK},
		{cross, none(), 991, 0, api.ErrNone},
		{long, none(), api.MaxSteps, 0, api.ErrNone},
		{meet, turn(), 5, 2, api.OK},
		{meet, none(), 5, 1, api.OK},
		{meet, shift(1), 5, 2, api.OK},
		{meet, shift(2), 5, 1, api.OK},
	} {
		if n, e := grid.Period(x.g, x.r, x.most); n != x.want || e != x.e {
			t.Errorf("Period of %d by %d by %v, at most %d, = %d, %d, want %d, %d", x.g.Wide, x.g.High, x.r, x.most, n, e, x.want, x.e)
		}
	}
}

func TestPeriodErrors(t *testing.T) {
	g := filled(2, 2, 3, 1)
	for _, most := range []int{0, -1, api.MaxSteps + 1, math.MinInt, math.MaxInt} {
		if n, e := grid.Period(g, turn(), most); n != 0 || e != api.ErrRange {
			t.Errorf("Period at most %d = %d, %d", most, n, e)
		}
	}
	for _, r := range []api.Rule{{Kind: 3}, {Kind: -1}, {By: 1}, {Kind: api.RTurn, By: 2}, shift(api.MaxMass + 1), shift(-api.MaxMass - 1)} {
		for _, most := range []int{1, 0, api.MaxSteps + 1} {
			if n, e := grid.Period(g, r, most); n != 0 || e != api.ErrInvalid {
				t.Errorf("Period by %v at most %d = %d, %d", r, most, n, e)
			}
		}
	}
}

// TestReturn runs grids by one rule until some grid is there again: it must be the first one, after its Period.
func TestReturn(t *testing.T) {
	returned := 0
	for i, s := range [][2]int{{1, 1}, {1, 2}, {2, 1}, {2, 2}, {1, 4}, {3, 1}, {3, 2}} {
		for seed := range 8 {
			g := filled(s[0], s[1], 3, uint64(i*100+seed))
			for _, r := range []api.Rule{none(), turn(), shift(1), shift(-1), shift(2)} {
				seen := map[string]int{grid.Format(g): 0}
				h, l, period := g, []api.Rule{r}, 0
				for n := 1; n <= 200 && period == 0; n++ {
					h = stepped(t, h, l, 0)
					if first, ok := seen[grid.Format(h)]; ok && first != 0 {
						t.Fatalf("%v by %v: after %d steps as after %d", g, r, n, first)
					} else if ok {
						period = n
					}
					seen[grid.Format(h)] = n
				}
				n, e := grid.Period(g, r, 200)
				if period == 0 && (n != 0 || e != api.ErrNone) || period != 0 && (n != period || e != api.OK) {
					t.Errorf("Period(%v, %v, 200) = %d, %d, want %d", g, r, n, e, period)
				}
				if e == api.OK {
					returned++
					if !equal(done(t)(grid.Run(g, l, 7, n)), g) {
						t.Errorf("%v by %v is another grid after its Period %d", g, r, n)
					}
				}
			}
		}
	}
	if returned < 100 {
		t.Errorf("only %d grids came back", returned)
	}
}
