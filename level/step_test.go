package level_test

import (
	"math"
	"slices"
	"testing"

	"slipstream/api"
	"slipstream/grid"
	"slipstream/level"
)

// TestStep compares steps with what section 'A patch' writes; each one goes on from the one before.
func TestStep(t *testing.T) {
	for i, p := range patches() {
		l := validRules()[i%6]
		for j, number := range []int{0, 1, 2, 3, 7, 10, 123456, 499999} {
			q, burst, gathered := stepped(p, l, number)
			if r, e := level.Step(p, l, number); e != api.OK || !samePatch(r, q) {
				t.Fatalf("Step(%v, %v, %d) = %v, %d, want %v", p, l, number, r, e, q)
			}
			if n, e := level.Enter(p, l, number); n != counted(burst) || e != api.OK {
				t.Errorf("Enter(%v, %v, %d) = %d, %d, want %d", p, l, number, n, e, counted(burst))
			}
			if n, e := level.Leave(p, l, number); n != counted(gathered) || e != api.OK {
				t.Errorf("Leave(%v, %v, %d) = %d, %d, want %d", p, l, number, n, e, counted(gathered))
			}
			if j%3 == 1 {
				l = validRules()[(i+j)%6]
			}
			p = q
		}
	}
}

// TestSeam: a step keeps the mass and the momentum of both levels, the patch is valid again, and Fine grows by what enters less what leaves.
func TestSeam(t *testing.T) {
	for _, p := range patches() {
		for number, l := range validRules() {
			q := done[api.Patch](t)(level.Step(p, l, number))
			entered := done[int](t)(level.Enter(p, l, number))
			left := done[int](t)(level.Leave(p, l, number))
			if grown := massOf(q.Fine) - massOf(p.Fine); grown != entered-left || !level.Valid(q) {
				t.Errorf("%d enter and %d leave %v, and Fine grows by %d", entered, left, p, grown)
			}
			before, after := done[int](t)(level.Mass(p)), done[int](t)(level.Mass(q))
			x, y, _ := level.Momentum(p)
			u, v, _ := level.Momentum(q)
			if before != after || x != u || y != v {
				t.Errorf("a step of %v makes %d, %d, %d of %d, %d, %d", p, after, u, v, before, x, y)
			}
		}
	}
}

// TestAlone: a patch whose Fine is empty, and into which nothing enters, steps as its Coarse does.
func TestAlone(t *testing.T) {
	alone := 0
	for _, p := range patches() {
		p = changed(p, func(p *api.Patch) { p.Fine = empty(p.Fine.Wide, p.Fine.High) })
		quiet := changed(p, func(p *api.Patch) {
			for i := range p.Coarse.Cells {
				for dir := range 4 {
					if x, y := beside(i%p.Coarse.Wide, i/p.Coarse.Wide, dir); inside(*p, x, y) {
						p.Coarse.Cells[i] = api.Cell{}
					}
				}
			}
		})
		for number, l := range validRules() {
			for _, p := range []api.Patch{p, quiet} {
				if done[int](t)(level.Enter(p, l, number)) > 0 {
					continue
				}
				alone++
				q := done[api.Patch](t)(level.Step(p, l, number))
				g := done[api.Grid](t)(grid.Step(p.Coarse, l, number))
				if !sameGrid(q.Coarse, g) || massOf(q.Fine) != 0 || q.X0 != p.X0 || q.Y1 != p.Y1 {
					t.Errorf("the step %d of %v by %v is %v", number, p, l, q)
				}
			}
		}
	}
	if alone < 500 {
		t.Errorf("%d patches into which nothing enters", alone)
	}
}

func TestRun(t *testing.T) {
	for i, p := range smallPatches() {
		l := validRules()[i%6]
		for _, first := range []int{0, 1, 4, 499990} {
			q := p
			for n := range 6 {
				if r, e := level.Run(p, l, first, n); e != api.OK || !samePatch(r, q) {
					t.Errorf("Run(%v, %v, %d, %d) = %v, %d", p, l, first, n, r, e)
				}
				// A run that is made in two goes.
				for m := range n + 1 {
					half := done[api.Patch](t)(level.Run(p, l, first, m))
					if r := done[api.Patch](t)(level.Run(half, l, first+m, n-m)); !samePatch(r, q) {
						t.Errorf("Run(%v, %v, %d) of %d and then of %d steps = %v", p, l, first, m, n-m, r)
					}
				}
				q, _, _ = stepped(q, l, first+n)
			}
		}
	}
	long := frame{32, 32, 7, 9, 23, 25}.of(9, 9, 3)
	rules := validRules()[5]
	q := done[api.Patch](t)(level.Run(long, rules, 3, api.MaxSteps))
	if half := done[api.Patch](t)(level.Run(long, rules, 3, 400)); !samePatch(q, done[api.Patch](t)(level.Run(half, rules, 403, 600))) {
		t.Error("a run of 1000 steps is not one of 400 and then of 600")
	}
}

// TestRunRanges: a run goes to where the numbers of fine steps end; without steps it still asks for its first number.
func TestRunRanges(t *testing.T) {
	const least, most = math.MinInt, math.MaxInt
	for _, c := range []struct {
		t, n int
		e    api.Errno
	}{
		{0, 0, api.OK}, {0, 1000, api.OK}, {0, 1001, api.ErrRange}, {0, -1, api.ErrRange}, {-1, 0, api.ErrRange}, {-1, 1, api.ErrRange},
		{499999, 0, api.OK}, {499999, 1, api.OK}, {499999, 2, api.ErrRange}, {499998, 2, api.OK}, {499998, 3, api.ErrRange}, {499000, 1000, api.OK}, {499001, 1000, api.ErrRange},
		{500000, 0, api.ErrRange}, {500000, 1, api.ErrRange}, {api.MaxStep, 0, api.ErrRange}, {499999, -1, api.ErrRange},
		{most, most, api.ErrRange}, {most, 0, api.ErrRange}, {most, 1, api.ErrRange}, {least, least, api.ErrRange}, {0, most, api.ErrRange}, {0, least, api.ErrRange}, {1, most, api.ErrRange}, {1 << 62, 0, api.ErrRange}, {-1 << 62, 1, api.ErrRange},
	} {
		p := frame{3, 3, 1, 1, 2, 2}.of(3, 3, 1)
		q, e := level.Run(p, []api.Rule{turn()}, c.t, c.n)
		if e != c.e || e != api.OK && !isZeroPatch(q) {
			t.Errorf("Run of %v = %v, %d", c, q, e)
		}
	}
	for _, number := range []int{-1, 500000, api.MaxStep, api.MaxStep + 1, most, least, 1 << 62} {
		a := right()
		a.t = number
		wrong(t, a, api.ErrRange, "Step", "Run", "Enter", "Leave")
	}
	a := right()
	a.t, a.n = 499999, 1
	wrong(t, a, api.OK)
	a.n = 2
	wrong(t, a, api.ErrRange, "Run")
	a.n = -1
	wrong(t, a, api.ErrRange, "Run")
}

// TestInvalidRules: this error comes also where a number is out of its range.
func TestInvalidRules(t *testing.T) {
	for _, l := range invalidRules() {
		for _, number := range []int{0, -1} {
			a := right()
			a.rules, a.t, a.n = l, number, number
			wrong(t, a, api.ErrInvalid, "Step", "Run", "Enter", "Leave")
		}
	}
}

// TestBurst puts seven particles before each cell at each side of a rectangle: 2 and 2 come in behind the first fine step and have gone a place on in the second one, 2 and 1 come in behind that.
func TestBurst(t *testing.T) {
	base := frame{8, 7, 2, 2, 6, 5}.of(1, 1, 0)
	for i := range base.Coarse.Cells {
		for dir := range 4 {
			from := api.Point{X: i % 8, Y: i / 8}
			x, y := beside(from.X, from.Y, dir)
			if inside(base, from.X, from.Y) || !inside(base, x, y) {
				continue
			}
			p := changed(base, func(p *api.Patch) { p.Coarse.Cells[i][dir] = 7 })
			first := [2][2]int{{2 * (x - 2), 2 * (y - 2)}, {2 * (x - 2), 2 * (y - 2)}}
			switch dir {
			case api.East:
				first[1][1]++
			case api.North:
				first[1][0]++
			case api.West:
				first[0][0]++
				first[1][0]++
				first[1][1]++
			case api.South:
				first[0][1]++
				first[1][1]++
				first[1][0]++
			}
			want := empty(8, 6)
			for part, n := range [4]int{2, 2, 2, 1} {
				at := first[part%2]
				if part < 2 {
					at[0], at[1] = beside(at[0], at[1], dir)
				}
				want.Cells[at[0]+8*at[1]][dir] = n
			}
			q := done[api.Patch](t)(level.Step(p, []api.Rule{none()}, 0))
			if !sameGrid(q.Fine, want) || massOf(q.Coarse) != 0 {
				t.Errorf("seven that go in the direction %d from %v: %v", dir, from, q)
			}
			if n, e := level.Enter(p, []api.Rule{none()}, 0); n != 7 || e != api.OK {
				t.Errorf("Enter = %d, %d", n, e)
			}
		}
	}
}

// TestBurstRepeats: what burst in a step does not come in again in the next one.
func TestBurstRepeats(t *testing.T) {
	p := frame{12, 12, 2, 2, 10, 10}.of(1, 1, 0)
	p.Coarse.Cells[1+12*5][api.East] = 4
	q := done[api.Patch](t)(level.Run(p, []api.Rule{none()}, 0, 4))
	want := empty(16, 16)
	for y := range 2 {
		want.Cells[7+16*(6+y)][api.East] = 1
		want.Cells[6+16*(6+y)][api.East] = 1
	}
	if !sameGrid(q.Fine, want) {
		t.Errorf("Run = %v", q.Fine)
	}
}

// TestGather lets particles leave each fine cell at a side, with the first or the second fine step; they are in the coarse cell beside it then, and do not go on in that step.
func TestGather(t *testing.T) {
	base := frame{7, 6, 2, 2, 4, 4}.of(1, 1, 0)
	for i := range base.Fine.Cells {
		for dir := range 4 {
			x, y := i%4, i/4
			far := [4]int{3 - x, 3 - y, x, y}[dir]
			p := changed(base, func(p *api.Patch) { p.Fine.Cells[i][dir] = 5 })
			want := changed(base, func(p *api.Patch) {
				if far > 1 {
					u, v := beside(x, y, dir)
					u, v = beside(u, v, dir)
					p.Fine.Cells[u+4*v][dir] = 5
					return
				}
				at := [4][2]int{{4, 2 + y/2}, {2 + x/2, 4}, {1, 2 + y/2}, {2 + x/2, 1}}[dir]
				p.Coarse.Cells[at[0]+7*at[1]][dir] = 5
			})
			if q := done[api.Patch](t)(level.Step(p, []api.Rule{none()}, 3)); !samePatch(q, want) {
				t.Errorf("five that go in the direction %d from %d, %d: %v", dir, x, y, q)
			}
			left := 5
			if far > 1 {
				left = 0
			}
			if n, e := level.Leave(p, []api.Rule{none()}, 3); n != left || e != api.OK {
				t.Errorf("Leave = %d, %d, want %d", n, e, left)
			}
		}
	}
}

// TestOutAndIn: what is gathered in a coarse cell and what streams into it are added.
func TestOutAndIn(t *testing.T) {
	p := frame{5, 5, 2, 2, 3, 3}.of(1, 1, 0)
	p.Fine.Cells[1] = api.Cell{3}
	p.Fine.Cells[3] = api.Cell{4}
	p.Coarse.Cells[3+5*1] = api.Cell{0, 8}
	q := done[api.Patch](t)(level.Step(p, []api.Rule{none()}, 0))
	if q.Coarse.Cells[3+5*2] != (api.Cell{7, 8}) {
		t.Errorf("Step = %v", q)
	}
	// Two that meet in a fine cell leave crosswise by the rule of a fine step, though that of the coarse one leaves them.
	p = frame{5, 5, 2, 2, 3, 3}.of(1, 1, 0)
	p.Fine.Cells[0] = api.Cell{1, 0, 1}
	l := []api.Rule{none(), none(), turn(), none()}
	if q := done[api.Patch](t)(level.Step(p, l, 1)); q.Coarse.Cells[2+5*1] != (api.Cell{0, 0, 0, 1}) || q.Coarse.Cells[2+5*3] != (api.Cell{0, 1}) {
		t.Errorf("Step = %v", q)
	}
	// In the step 0 all rules but that of the step 2 leave them: one is in the next cell after the first fine step and gone after the second one.
	if q := done[api.Patch](t)(level.Step(p, l, 0)); q.Coarse.Cells[1+5*2] != (api.Cell{0, 0, 1}) || q.Coarse.Cells[3+5*2] != (api.Cell{1}) {
		t.Errorf("Step = %v", q)
	}
}

// TestBurstCollides: particles that come in behind the first fine step collide in the second one, and may leave with it.
func TestBurstCollides(t *testing.T) {
	p := frame{3, 3, 1, 1, 2, 2}.of(1, 1, 0)
	p.Coarse.Cells[0+3*1] = api.Cell{1}
	p.Coarse.Cells[2+3*1] = api.Cell{0, 0, 1}
	p.Fine.Cells[1] = api.Cell{}
	p.Fine.Cells[0] = api.Cell{}
	// The first of east comes in at the fine cell 0, the first of west at 1; a particle that goes west from 1 in the first fine step meets the one at 0.
	p.Fine.Cells[1] = api.Cell{0, 0, 1}
	l := []api.Rule{none(), turn()}
	q, burst, gathered := stepped(p, l, 0)
	if counted(burst) != 2 || counted(gathered) != 1 {
		t.Fatalf("%v burst, %v are gathered", burst, gathered)
	}
	r := done[api.Patch](t)(level.Step(p, l, 0))
	if !samePatch(r, q) || r.Coarse.Cells[1] != (api.Cell{0, 0, 0, 1}) || r.Fine.Cells[2] != (api.Cell{0, 1}) || r.Fine.Cells[0] != (api.Cell{0, 0, 1}) {
		t.Errorf("Step = %v", r)
	}
	if !slices.Equal(r.Fine.Cells, []api.Cell{{0, 0, 1}, {}, {0, 1}, {}}) {
		t.Errorf("Fine = %v", r.Fine)
	}
}
