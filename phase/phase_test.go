package phase_test

import (
	"slices"
	"strings"
	"testing"

	"slipstream/api"
	"slipstream/grid"
	"slipstream/phase"
)

func TestValid(t *testing.T) {
	for _, x := range mixes() {
		if !phase.Valid(x) {
			t.Errorf("not valid: %v", x)
		}
	}
	for _, x := range invalidMixes() {
		if phase.Valid(x) {
			t.Errorf("valid: %v", x)
		}
	}
}

func TestPartsAndSums(t *testing.T) {
	for _, x := range mixes() {
		a, b, e := phase.Parts(x)
		if e != api.OK || a.Wide != x.Wide || b.Wide != x.Wide || a.High != x.High || b.High != x.High || !slices.Equal(a.Cells, x.A) || !slices.Equal(b.Cells, x.B) {
			t.Fatalf("Parts(%v) = %v, %v, %d", x, a, b, e)
		}
		if y := done[api.Mix](t)(phase.Of(a, b)); !equal(y, x) {
			t.Errorf("Of(Parts(%v)) = %v", x, y)
		}
		both := done[api.Grid](t)(phase.Both(x))
		for i, c := range both.Cells {
			for dir, n := range c {
				if n != x.A[i][dir]+x.B[i][dir] {
					t.Fatalf("Both: %v and %v are %v", x.A[i], x.B[i], c)
				}
			}
		}
		if both.Wide != x.Wide || both.High != x.High || len(both.Cells) != len(x.A) {
			t.Errorf("Both of %d by %d is %d by %d", x.Wide, x.High, both.Wide, both.High)
		}
		m, n, e := phase.Masses(x)
		if e != api.OK || m != mass(x.A) || n != mass(x.B) {
			t.Errorf("Masses(%v) = %d, %d, %d", x, m, n, e)
		}
		east, north, e := phase.Momentum(x)
		if p := (api.Push{East: east, North: north}); e != api.OK || p != momentum(x.A, x.B) {
			t.Errorf("Momentum(%v) = %v, %d", x, p, e)
		}
		if k := done[int](t)(grid.Mass(both)); k != m+n {
			t.Errorf("Both has the mass %d, the mix %d and %d", k, m, n)
		}
		if u, v, _ := grid.Momentum(both); u != east || v != north {
			t.Errorf("Both has the momentum %d, %d, the mix %d, %d", u, v, east, north)
		}
	}
}

func gridOf(wide, high int, cells ...api.Cell) api.Grid {
	return api.Grid{Wide: wide, High: high, Cells: append(cells, make([]api.Cell, wide*high-len(cells))...)}
}

func TestOfErrors(t *testing.T) {
	most := api.Cell{0, 0, api.MaxMass, 0}
	bad := api.Grid{Wide: 2, High: 2, Cells: make([]api.Cell, 3)}
	for _, x := range []struct {
		a, b api.Grid
		e    api.Errno
	}{
		{gridOf(2, 1, most), gridOf(2, 1), api.OK},
		{gridOf(2, 1), gridOf(2, 1, api.Cell{}, most), api.OK},
		{gridOf(2, 1, api.Cell{499999999}), gridOf(2, 1, api.Cell{500000001}), api.OK},
		{gridOf(2, 1, most), gridOf(2, 1, api.Cell{1}), api.ErrLimit},
		{gridOf(2, 1, api.Cell{1}), gridOf(2, 1, most), api.ErrLimit},
		{gridOf(2, 1, most), gridOf(2, 1, api.Cell{}, api.Cell{1}), api.ErrLimit},
		{gridOf(2, 1, most), gridOf(2, 1, most), api.ErrLimit},
		{gridOf(2, 1, api.Cell{1}, api.Cell{500000000}), gridOf(2, 1, api.Cell{500000000}), api.ErrLimit},
		{gridOf(2, 1), gridOf(1, 2), api.ErrSize},
		{gridOf(1, 2), gridOf(2, 1), api.ErrSize},
		{gridOf(2, 2), gridOf(2, 3), api.ErrSize},
		{gridOf(3, 2), gridOf(2, 2), api.ErrSize},
		{gridOf(2, 3), gridOf(3, 2), api.ErrSize},
		{gridOf(1, 1, most), gridOf(1, 2, most), api.ErrSize},
		{bad, gridOf(2, 2), api.ErrInvalid},
		{gridOf(2, 2), bad, api.ErrInvalid},
		{bad, gridOf(1, 1), api.ErrInvalid},
		{gridOf(1, 1, most), bad, api.ErrInvalid},
		{bad, bad, api.ErrInvalid},
		{api.Grid{}, api.Grid{}, api.ErrInvalid},
		{gridOf(2, 1, api.Cell{-1}), gridOf(2, 1, api.Cell{1}), api.ErrInvalid},
		{gridOf(2, 1, api.Cell{api.MaxMass, 1}), gridOf(2, 1), api.ErrInvalid},
		{gridOf(2, 1, most), gridOf(2, 1, most, most), api.ErrInvalid},
	} {
		y, e := phase.Of(x.a, x.b)
		if e != x.e || e != api.OK && !isZero(y) {
			t.Errorf("Of(%v, %v) = %v, %d, want %d", x.a, x.b, y, e, x.e)
		}
		if e == api.OK && !equal(y, api.Mix{Wide: x.a.Wide, High: x.a.High, A: x.a.Cells, B: x.b.Cells}) {
			t.Errorf("Of(%v, %v) = %v", x.a, x.b, y)
		}
	}
}

func TestSwapped(t *testing.T) {
	for _, x := range mixes() {
		if y := done[api.Mix](t)(phase.Swapped(x)); !equal(y, swapped(x)) {
			t.Errorf("Swapped(%v) = %v", x, y)
		}
	}
}

func TestSame(t *testing.T) {
	l := mixes()
	for i, x := range l {
		for j, y := range l {
			if phase.Same(x, y) != (i == j || equal(x, y)) {
				t.Errorf("Same(%v, %v) = %v", x, y, phase.Same(x, y))
			}
		}
	}
	x := filled(3, 2, 5, 1)
	for i := range x.A {
		for dir := range 4 {
			y, z := done[api.Mix](t)(phase.Of(phases(t, x))), done[api.Mix](t)(phase.Of(phases(t, x)))
			y.A[i][dir]++
			z.B[i][dir]++
			if phase.Same(x, y) || phase.Same(y, x) || phase.Same(x, z) || phase.Same(y, z) {
				t.Errorf("a particle more in the cell %d makes no difference", i)
			}
		}
	}
	if turned := (api.Mix{Wide: 2, High: 3, A: x.A, B: x.B}); phase.Same(x, turned) || phase.Same(turned, x) {
		t.Error("mixes of other sides are the same")
	}
	// With the same cells, and one side the same, only one of two mixes can be valid.
	for _, other := range []api.Mix{{Wide: 3, High: 3, A: x.A, B: x.B}, {Wide: 2, High: 2, A: x.A, B: x.B}, {Wide: 3, A: x.A, B: x.B}, {High: 2, A: x.A, B: x.B}, {Wide: 4, High: 2, A: x.A, B: x.B}} {
		if phase.Same(x, other) || phase.Same(other, x) {
			t.Errorf("Same(%v, %v)", x, other)
		}
	}
	for _, bad := range invalidMixes() {
		if phase.Same(bad, bad) || phase.Same(bad, x) || phase.Same(x, bad) {
			t.Errorf("%v, which is not valid, is the same as a mix", bad)
		}
	}
}

func phases(t *testing.T, x api.Mix) (a, b api.Grid) {
	t.Helper()
	a, b, e := phase.Parts(x)
	if e != api.OK {
		t.Fatalf("Parts: error %d", e)
	}
	return a, b
}

// TestInvalidMixes calls everything with a mix that is not valid; the other arguments are in their ranges, and then also not.
func TestInvalidMixes(t *testing.T) {
	for _, x := range invalidMixes() {
		for _, good := range []bool{true, false} {
			l, p, number, kind := []api.Rule{turn()}, api.Point{}, 1, 1
			if !good {
				l, p, number, kind = nil, api.Point{X: -1}, -1, 3
			}
			for _, c := range append(stepCalls(l, l, number, number), call{"Swapped", phase.Swapped}) {
				if y, e := c.do(x); !isZero(y) || e != api.ErrInvalid {
					t.Errorf("%s(%v) = %v, %d", c.name, x, y, e)
				}
			}
			if k, e := phase.Kind(x, p); k != 0 || e != api.ErrInvalid {
				t.Errorf("Kind(%v) = %d, %d", x, k, e)
			}
			if sizes, e := phase.Drops(x, kind); len(sizes) != 0 || e != api.ErrInvalid {
				t.Errorf("Drops(%v) = %v, %d", x, sizes, e)
			}
		}
		if a, b, e := phase.Parts(x); !isZeroGrid(a) || !isZeroGrid(b) || e != api.ErrInvalid {
			t.Errorf("Parts(%v) = %v, %v, %d", x, a, b, e)
		}
		if g, e := phase.Both(x); !isZeroGrid(g) || e != api.ErrInvalid {
			t.Errorf("Both(%v) = %v, %d", x, g, e)
		}
		if a, b, e := phase.Masses(x); a != 0 || b != 0 || e != api.ErrInvalid {
			t.Errorf("Masses(%v) = %d, %d, %d", x, a, b, e)
		}
		if east, north, e := phase.Momentum(x); east != 0 || north != 0 || e != api.ErrInvalid {
			t.Errorf("Momentum(%v) = %d, %d, %d", x, east, north, e)
		}
		if n, e := phase.Interface(x); n != 0 || e != api.ErrInvalid {
			t.Errorf("Interface(%v) = %d, %d", x, n, e)
		}
		if s := phase.Format(x); s != "" {
			t.Errorf("Format(%v) = %q", x, s)
		}
	}
}

// memory is a mix of which the spare capacity of A is B, and behind it is more.
type memory struct {
	cells    []api.Cell
	argument api.Mix
}

func spare(x api.Mix) *memory {
	n := len(x.A)
	cells := append(slices.Concat(x.A, x.B), api.Cell{7, 7, 7, 7}, api.Cell{8, 8, 8, 8})
	return &memory{cells, api.Mix{Wide: x.Wide, High: x.High, A: cells[:n], B: cells[n : 2*n]}}
}

func (m *memory) check(t *testing.T, name string, x api.Mix) {
	t.Helper()
	if !slices.Equal(m.cells, spare(x).cells) {
		t.Fatalf("%s changes or keeps its arguments", name)
	}
}

func scribble(l []api.Cell) {
	for i := range l[:cap(l)] {
		l[:cap(l)][i] = api.Cell{-9, -9, -9, -9}
	}
}

// TestNewMemory writes over all of a result's memory, and looks whether its other part has changed, an argument, or the next result.
func TestNewMemory(t *testing.T) {
	l, m := []api.Rule{turn(), shift(3)}, []api.Rule{shift(1)}
	for _, x := range smallMixes() {
		room := spare(x)
		calls := copies()
		for n := range 4 {
			calls = append(calls, stepCalls(l, m, 1, n)...)
		}
		for _, c := range calls {
			first := done[api.Mix](t)(c.do(room.argument))
			a, b := slices.Clone(first.A), slices.Clone(first.B)
			scribble(first.A)
			if !slices.Equal(first.B, b) {
				t.Fatalf("%s: A and B share memory", c.name)
			}
			scribble(first.B)
			if first.A[0] != (api.Cell{-9, -9, -9, -9}) {
				t.Fatalf("%s: B and A share memory", c.name)
			}
			room.check(t, c.name, x)
			if second := done[api.Mix](t)(c.do(room.argument)); !slices.Equal(second.A, a) || !slices.Equal(second.B, b) {
				t.Errorf("%s gives another result after its first one has changed", c.name)
			}
		}
		scribble(done[api.Grid](t)(phase.Both(room.argument)).Cells)
		room.check(t, "Both", x)
		for kind := 1; kind <= 2; kind++ {
			first := done[[]int](t)(phase.Drops(room.argument, kind))
			kept := slices.Clone(first)
			clear(first[:cap(first)])
			if second := done[[]int](t)(phase.Drops(room.argument, kind)); !slices.Equal(second, kept) {
				t.Errorf("Drops gives another result after its first one has changed")
			}
		}
		phase.Masses(room.argument)
		phase.Momentum(room.argument)
		phase.Interface(room.argument)
		phase.Kind(room.argument, api.Point{})
		phase.Same(room.argument, room.argument)
		room.check(t, "a call that only tells", x)
	}
}

// TestOneMemory gives calls a mix whose phases are the same memory: the result's are not.
func TestOneMemory(t *testing.T) {
	l := []api.Rule{turn(), shift(1)}
	for _, x := range smallMixes() {
		if x.B = x.A; !phase.Valid(x) {
			continue
		}
		before := slices.Clone(x.A)
		calls := copies()
		for n := range 3 {
			calls = append(calls, stepCalls(l, l, 0, n)...)
		}
		for _, c := range calls {
			y := done[api.Mix](t)(c.do(x))
			kept := slices.Clone(y.B)
			scribble(y.A)
			if !slices.Equal(y.B, kept) || !slices.Equal(x.A, before) {
				t.Fatalf("%s: A and B share memory", c.name)
			}
			scribble(y.B)
			if !slices.Equal(x.A, before) {
				t.Fatalf("%s changes or keeps its argument", c.name)
			}
		}
		if y := done[api.Mix](t)(phase.Step(x, l, l, 1)); !equal(y, stepped(x, l, l, 1)) {
			t.Errorf("Step of phases in one memory is not as written: %v", y)
		}
	}
}

func TestRulesStay(t *testing.T) {
	x := filled(3, 2, 5, 1)
	l := []api.Rule{turn(), shift(3), {Kind: 9}, {Kind: 9}}
	m := []api.Rule{shift(-2), {Kind: 8}}
	before, earlier := slices.Clone(l), slices.Clone(m)
	for _, c := range stepCalls(l[:2], m[:1], 0, 5) {
		done[api.Mix](t)(c.do(x))
	}
	if !slices.Equal(l, before) || !slices.Equal(m, earlier) {
		t.Errorf("rules became %v and %v", l, m)
	}
}

// TestSameAgain: the same call gives the same result, also with other calls between.
func TestSameAgain(t *testing.T) {
	var first, second strings.Builder
	l := []api.Rule{shift(2), turn()}
	for _, text := range []*strings.Builder{&first, &second} {
		for _, x := range smallMixes() {
			text.WriteString(phase.Format(done[api.Mix](t)(phase.Run(x, l, l, 1, 3))))
		}
	}
	if first.String() != second.String() {
		t.Error("the same calls give other results")
	}
}
