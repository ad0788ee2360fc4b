package phase_test

import (
	"math"
	"slices"
	"testing"

	"slipstream/api"
	"slipstream/grid"
	"slipstream/phase"
)

// TestStepExample: in the middle A and B exchange what they have east and west, and all go on from there.
func TestStepExample(t *testing.T) {
	x := empty(3, 3)
	x.A[4], x.B[4] = api.Cell{3}, api.Cell{1, 0, 2}
	y := done[api.Mix](t)(phase.Step(x, []api.Rule{none()}, []api.Rule{turn()}, 0))
	want := empty(3, 3)
	want.A[5], want.A[3], want.B[5] = api.Cell{1}, api.Cell{0, 0, 2}, api.Cell{3}
	if !equal(y, want) {
		t.Errorf("Step = %v", y)
	}
}

// TestCollisionsBeforeExchanges: the pair of A turns before A and B change places along both lines.
func TestCollisionsBeforeExchanges(t *testing.T) {
	x := empty(3, 3)
	x.A[4], x.B[4] = api.Cell{1, 0, 1, 0}, api.Cell{0, 0, 0, 1}
	y := done[api.Mix](t)(phase.Step(x, []api.Rule{turn()}, []api.Rule{turn()}, 5))
	want := empty(3, 3)
	want.A[1], want.B[7] = api.Cell{0, 0, 0, 2}, api.Cell{0, 1}
	if !equal(y, want) {
		t.Errorf("Step = %v", y)
	}
	if z := done[api.Mix](t)(phase.Back(y, []api.Rule{turn()}, []api.Rule{turn()}, 5)); !equal(z, x) {
		t.Errorf("Back(Step) = %v", z)
	}
}

func TestStepAsWritten(t *testing.T) {
	for _, x := range mixes() {
		for i, l := range validRules() {
			for j, m := range validRules() {
				if len(x.A) > 64 && (i+2*j)%7 != 0 {
					continue
				}
				for _, step := range []int{0, 1, 7, api.MaxStep} {
					y := done[api.Mix](t)(phase.Step(x, l, m, step))
					if !equal(y, stepped(x, l, m, step)) {
						t.Fatalf("Step %d of %d by %d with %v and %v is not as written", step, x.Wide, x.High, l, m)
					}
					if !equal(done[api.Mix](t)(phase.Back(y, l, m, step)), x) {
						t.Fatalf("Back(Step) %d of %d by %d with %v and %v is another mix", step, x.Wide, x.High, l, m)
					}
					if b := done[api.Mix](t)(phase.Back(x, l, m, step)); !equal(stepped(b, l, m, step), x) {
						t.Fatalf("Step(Back) %d of %d by %d with %v and %v is another mix", step, x.Wide, x.High, l, m)
					}
					if mass(y.A) != mass(x.A) || mass(y.B) != mass(x.B) || momentum(y.A, y.B) != momentum(x.A, x.B) {
						t.Fatalf("Step %d of %d by %d with %v and %v keeps not all", step, x.Wide, x.High, l, m)
					}
				}
			}
		}
	}
}

func TestRunAndUndo(t *testing.T) {
	for _, x := range smallMixes() {
		for _, l := range validRules()[2:] {
			for _, m := range validRules()[2:] {
				y := x
				for n := range 10 {
					if !equal(done[api.Mix](t)(phase.Run(x, l, m, 5, n)), y) {
						t.Fatalf("Run of %d of %d by %d with %v and %v is not %d steps", n, x.Wide, x.High, l, m, n)
					}
					if !equal(done[api.Mix](t)(phase.Undo(y, l, m, 5, n)), x) {
						t.Fatalf("Undo(Run) of %d of %d by %d with %v and %v is another mix", n, x.Wide, x.High, l, m)
					}
					y = stepped(y, l, m, 5+n)
				}
			}
		}
	}
}

func TestLongRun(t *testing.T) {
	l, m := []api.Rule{shift(3), turn(), shift(-2)}, []api.Rule{turn(), shift(1)}
	first := api.MaxStep - api.MaxSteps + 1
	for _, s := range [][2]int{{5, 4}, {32, 32}} {
		x := filled(s[0], s[1], 1000, 3)
		y := done[api.Mix](t)(phase.Run(x, l, m, first, api.MaxSteps))
		if equal(y, x) || mass(y.A) != mass(x.A) || mass(y.B) != mass(x.B) || momentum(y.A, y.B) != momentum(x.A, x.B) {
			t.Errorf("%v: Run gives the mix itself, or keeps not all", s)
		}
		if !equal(done[api.Mix](t)(phase.Undo(y, l, m, first, api.MaxSteps)), x) {
			t.Errorf("%v: Undo(Run) is another mix", s)
		}
		half := done[api.Mix](t)(phase.Run(x, l, m, first, 400))
		if !equal(done[api.Mix](t)(phase.Run(half, l, m, first+400, 600)), y) {
			t.Errorf("%v: Run of 400 and of 600 is not that of 1000", s)
		}
	}
}

// gridCalls are layer 2's calls beside those of stepCalls.
func gridCalls(l []api.Rule, step, n int) []func(g api.Grid) (api.Grid, api.Errno) {
	return []func(g api.Grid) (api.Grid, api.Errno){
		func(g api.Grid) (api.Grid, api.Errno) { return grid.Step(g, l, step) },
		func(g api.Grid) (api.Grid, api.Errno) { return grid.Back(g, l, step) },
		func(g api.Grid) (api.Grid, api.Errno) { return grid.Run(g, l, step, n) },
		func(g api.Grid) (api.Grid, api.Errno) { return grid.Undo(g, l, step, n) },
	}
}

// TestAlone: without B, without A, and without exchanges each phase moves as in layer 2.
func TestAlone(t *testing.T) {
	for _, x := range smallMixes() {
		a, b, _ := phase.Parts(x)
		nothing := done[api.Grid](t)(grid.Empty(x.Wide, x.High))
		for _, l := range validRules() {
			for i, layer2 := range gridCalls(l, 4, 7) {
				wantA, wantB := done[api.Grid](t)(layer2(a)), done[api.Grid](t)(layer2(b))
				for _, m := range validRules() {
					c := stepCalls(l, m, 4, 7)[i]
					y := done[api.Mix](t)(c.do(done[api.Mix](t)(phase.Of(a, nothing))))
					if !slices.Equal(y.A, wantA.Cells) || !slices.Equal(y.B, nothing.Cells) {
						t.Errorf("%s of %d by %d without B with %v and %v is not that of layer 2", c.name, x.Wide, x.High, l, m)
					}
					y = done[api.Mix](t)(c.do(done[api.Mix](t)(phase.Of(nothing, b))))
					if !slices.Equal(y.B, wantB.Cells) || !slices.Equal(y.A, nothing.Cells) {
						t.Errorf("%s of %d by %d without A with %v and %v is not that of layer 2", c.name, x.Wide, x.High, l, m)
					}
				}
				c := stepCalls(l, []api.Rule{none()}, 4, 7)[i]
				if y := done[api.Mix](t)(c.do(x)); !slices.Equal(y.A, wantA.Cells) || !slices.Equal(y.B, wantB.Cells) {
					t.Errorf("%s of %d by %d with %v and without exchanges is not that of layer 2", c.name, x.Wide, x.High, l)
				}
			}
		}
	}
}

// TestStepSwapped: steps and Swapped may be exchanged if the exchanges are RNone or RTurn, but not always if they are not.
func TestStepSwapped(t *testing.T) {
	differ := false
	for _, x := range smallMixes() {
		for _, l := range validRules() {
			for _, m := range [][]api.Rule{{none()}, {turn()}, {turn(), none(), turn()}} {
				for i, c := range stepCalls(l, m, 2, 5) {
					y := done[api.Mix](t)(phase.Swapped(done[api.Mix](t)(c.do(x))))
					if !equal(y, done[api.Mix](t)(c.do(swapped(x)))) {
						t.Errorf("%s of the swapped mix with %v and %v is not the swapped one", c.name, l, m)
					}
					other := stepCalls(l, []api.Rule{shift(1)}, 2, 5)[i]
					differ = differ || !equal(swapped(done[api.Mix](t)(other.do(x))), done[api.Mix](t)(other.do(swapped(x))))
				}
			}
		}
	}
	if !differ {
		t.Error("by RShift it makes no difference either which phase is A")
	}
}

func TestStepErrors(t *testing.T) {
	x, l, m := filled(3, 2, 4, 1), []api.Rule{turn(), shift(1)}, []api.Rule{shift(2)}
	for _, c := range []struct {
		t, n int
		e    api.Errno
	}{
		{0, 0, api.OK}, {0, api.MaxSteps, api.OK}, {api.MaxStep, 1, api.OK}, {api.MaxStep, 0, api.OK}, {api.MaxStep - 999, 1000, api.OK}, {api.MaxStep - 1, 2, api.OK},
		{-1, 0, api.ErrRange}, {-1, 1, api.ErrRange}, {0, -1, api.ErrRange}, {0, api.MaxSteps + 1, api.ErrRange}, {api.MaxStep + 1, 0, api.ErrRange}, {api.MaxStep + 1, 1, api.ErrRange},
		{api.MaxStep, 2, api.ErrRange}, {api.MaxStep - 998, 1000, api.ErrRange}, {math.MinInt, 1, api.ErrRange}, {math.MaxInt, 1, api.ErrRange},
		{math.MaxInt, math.MaxInt, api.ErrRange}, {0, math.MinInt, api.ErrRange}, {1, math.MaxInt, api.ErrRange}, {math.MinInt, math.MinInt, api.ErrRange},
	} {
		for _, run := range stepCalls(l, m, c.t, c.n)[2:] {
			if y, e := run.do(x); e != c.e || e != api.OK && !isZero(y) || e == api.OK && !phase.Valid(y) {
				t.Errorf("%s from %d of %d: %v, %d, want %d", run.name, c.t, c.n, y, e, c.e)
			}
		}
		for _, bad := range invalidRules() {
			for _, run := range append(append(stepCalls(bad, m, c.t, c.n), stepCalls(l, bad, c.t, c.n)...), stepCalls(bad, bad, c.t, c.n)...) {
				if y, e := run.do(x); e != api.ErrInvalid || !isZero(y) {
					t.Errorf("%s from %d of %d with %v: %v, %d", run.name, c.t, c.n, bad, y, e)
				}
			}
		}
	}
	for _, step := range badNumbers() {
		for _, c := range stepCalls(l, m, step, 1)[:2] {
			if y, e := c.do(x); e != api.ErrRange || !isZero(y) {
				t.Errorf("%s %d: %v, %d", c.name, step, y, e)
			}
		}
	}
}
