package level_test

import (
	"fmt"
	"math"
	"slices"
	"testing"

	"slipstream/api"
	"slipstream/level"
)

// slot is memory of an argument or a result.
type slot struct {
	scribble func()
	intact   func() bool
}

func slotOf[T comparable](l []T, junk T) slot {
	before := slices.Clone(l[:cap(l)])
	return slot{
		scribble: func() {
			for i := range l[:cap(l)] {
				l[:cap(l)][i] = junk
			}
		},
		intact: func() bool { return slices.Equal(l[:cap(l)], before) },
	}
}

func slotsOf(grids ...api.Grid) []slot {
	var l []slot
	for _, g := range grids {
		l = append(l, slotOf(g.Cells, api.Cell{-9, -9, -9, -9}))
	}
	return l
}

// roomy returns a list with its own first element again behind it in its memory.
func roomy[T any](l []T) []T {
	room := make([]T, len(l), len(l)+5)
	copy(room, l)
	for i := range 5 {
		room[:cap(room)][len(l)+i] = l[0]
	}
	return room
}

// given returns arguments in memory with room behind each list, and its slots.
func given(a arguments) (arguments, []slot) {
	a.p.Coarse.Cells, a.p.Fine.Cells, a.rules = roomy(a.p.Coarse.Cells), roomy(a.p.Fine.Cells), roomy(a.rules)
	return a, append(slotsOf(a.p.Coarse, a.p.Fine), slotOf(a.rules, api.Rule{Kind: 9}))
}

// memoryCall is a call that is told what it returns, and its memory.
type memoryCall struct {
	name string
	do   func(a arguments) (string, []slot)
}

// memoryCalls take Fine as a grid of its own where they ask for a grid.
func memoryCalls() []memoryCall {
	ofGrid := func(do func(g api.Grid) (api.Grid, api.Errno)) func(a arguments) (string, []slot) {
		return func(a arguments) (string, []slot) {
			g, e := do(a.p.Fine)
			return fmt.Sprint(g, e), slotsOf(g)
		}
	}
	ofPatch := func(do func(a arguments) (api.Patch, api.Errno)) func(a arguments) (string, []slot) {
		return func(a arguments) (string, []slot) {
			p, e := do(a)
			return fmt.Sprint(p, e), slotsOf(p.Coarse, p.Fine)
		}
	}
	return []memoryCall{
		{"Refine", ofGrid(level.Refine)},
		{"Coarsen", ofGrid(level.Coarsen)},
		{"Blocks", func(a arguments) (string, []slot) {
			l, e := level.Blocks(a.p.Fine)
			return fmt.Sprint(l, e), []slot{slotOf(l, -9)}
		}},
		{"Opened", ofPatch(func(a arguments) (api.Patch, api.Errno) { return level.Opened(a.p.Coarse, a.c, a.c) })},
		{"Shut", func(a arguments) (string, []slot) {
			g, e := level.Shut(a.p)
			return fmt.Sprint(g, e), slotsOf(g)
		}},
		{"Step", ofPatch(func(a arguments) (api.Patch, api.Errno) { return level.Step(a.p, a.rules, a.t) })},
		{"Run", ofPatch(func(a arguments) (api.Patch, api.Errno) { return level.Run(a.p, a.rules, a.t, a.n) })},
		{"Run of 0", ofPatch(func(a arguments) (api.Patch, api.Errno) { return level.Run(a.p, a.rules, a.t, 0) })},
		{"Parse", ofPatch(func(a arguments) (api.Patch, api.Errno) {
			p, _, e := level.Parse(level.Format(a.p))
			return p, e
		})},
		{"calls that only tell", func(a arguments) (string, []slot) {
			even, e := level.Even(a.p.Fine)
			return fmt.Sprint(outcomes(a), even, e, level.Valid(a.p), level.Same(a.p, a.p), level.Format(a.p)), nil
		}},
	}
}

// TestNewMemory writes over a result's memory, list by list, and looks whether another list of it has changed, an argument, or the next result.
func TestNewMemory(t *testing.T) {
	still := right()
	still.p = frame{6, 5, 2, 2, 4, 3}.of(1, 1, 0)
	for _, x := range []arguments{right(), still} {
		for _, c := range memoryCalls() {
			a, slots := given(x)
			want, _ := c.do(a)
			text, results := c.do(a)
			if text != want {
				t.Errorf("%s gives %s, and then %s", c.name, want, text)
			}
			for i, r := range results {
				r.scribble()
				for _, other := range results[i+1:] {
					if !other.intact() {
						t.Errorf("%s: two lists of a result share memory", c.name)
					}
				}
			}
			for _, s := range slots {
				if !s.intact() {
					t.Errorf("%s changes an argument, or keeps it", c.name)
				}
			}
			if text, _ := c.do(a); text != want {
				t.Errorf("%s gives %s, and after that was written over %s", c.name, want, text)
			}
		}
	}
}

// TestSharedArguments: both grids of a patch may lie in one piece of memory.
func TestSharedArguments(t *testing.T) {
	p := frame{4, 4, 1, 1, 3, 3}.of(1, 1, 0)
	p.Coarse.Cells[0], p.Coarse.Cells[2] = api.Cell{1, 2, 3, 4}, api.Cell{0, 9, 9, 0}
	p.Fine.Cells = slices.Clone(p.Coarse.Cells)
	shared := p
	shared.Fine.Cells = shared.Coarse.Cells
	l := []api.Rule{turn()}
	want := done[api.Patch](t)(level.Run(p, l, 0, 5))
	if q := done[api.Patch](t)(level.Run(shared, l, 0, 5)); !samePatch(q, want) || !samePatch(p, shared) {
		t.Errorf("Run = %v, want %v", q, want)
	}
	if g := done[api.Grid](t)(level.Shut(shared)); !sameGrid(g, done[api.Grid](t)(level.Shut(p))) || !samePatch(p, shared) {
		t.Errorf("Shut = %v", g)
	}
}

// TestNothingKept: what is changed in the arguments after a call does not change its result.
func TestNothingKept(t *testing.T) {
	for _, c := range memoryCalls() {
		a, slots := given(right())
		_, results := c.do(a)
		for _, s := range slots {
			s.scribble()
		}
		for _, r := range results {
			if !r.intact() {
				t.Errorf("%s: a result shares memory with an argument", c.name)
			}
		}
	}
}

// TestNilIsEmpty: nil and empty lists are the same.
func TestNilIsEmpty(t *testing.T) {
	for _, cells := range [][]api.Cell{nil, {}} {
		a := right()
		a.p.Coarse.Cells = cells
		wrong(t, a, api.ErrInvalid, everything()...)
		a = right()
		a.p.Fine.Cells = cells
		wrong(t, a, api.ErrInvalid, everything()...)
	}
	for _, l := range [][]api.Rule{nil, {}} {
		a := right()
		a.rules = l
		wrong(t, a, api.ErrInvalid, "Step", "Run", "Enter", "Leave")
	}
}

// TestWild gives calls numbers beyond all ranges, several at once: they all return, and with an error nothing else.
func TestWild(t *testing.T) {
	next := thrown(21)
	numbers := []int{0, 1, 2, 3, 4, 5, -1, 64, 65, 1000, 1001, 499999, 500000, api.MaxStep, api.MaxMass, api.MaxMass + 1, 1 << 62, math.MaxInt, math.MinInt}
	wild := func() int { return numbers[next(len(numbers))] }
	for range 5000 {
		a := right()
		for range 1 + next(3) {
			switch next(11) {
			case 0:
				a.p.Coarse.Wide, a.p.Coarse.High = wild(), wild()
			case 1:
				a.p.Fine.Wide, a.p.Fine.High = wild(), wild()
			case 2:
				a.p.X0, a.p.X1 = wild(), wild()
			case 3:
				a.p.Y0, a.p.Y1 = wild(), wild()
			case 4:
				a.p.Coarse.Cells[next(30)][next(4)] = wild()
			case 5:
				a.p.Fine.Cells[next(8)][next(4)] = wild()
			case 6:
				a.rules[next(2)] = api.Rule{Kind: next(4), By: wild()}
			case 7:
				a.t = wild()
			case 8:
				a.n = wild()
			case 9:
				a.c = api.Point{X: wild(), Y: wild()}
			case 10:
				a.f = api.Point{X: wild(), Y: wild()}
			}
		}
		for _, o := range outcomes(a) {
			if o.e < api.OK || o.e > api.ErrCommand || o.e != api.OK && !o.zero {
				t.Fatalf("%s of %v gives an error %d, and more", o.name, a, o.e)
			}
		}
		level.Refine(a.p.Coarse)
		level.Even(a.p.Fine)
		level.Blocks(a.p.Coarse)
		level.Same(a.p, middle())
		if p, e := level.Opened(a.p.Coarse, a.c, a.f); e == api.OK && !level.Valid(p) {
			t.Fatalf("Opened(%v, %v, %v) = %v", a.p.Coarse, a.c, a.f, p)
		}
		level.Parse(level.Format(a.p))
	}
}
