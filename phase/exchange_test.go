package phase_test

import (
	"math"
	"testing"

	"slipstream/api"
	"slipstream/phase"
)

func exchangeRules() []api.Rule {
	return []api.Rule{none(), turn(), shift(0), shift(1), shift(-1), shift(2), shift(5), shift(-7), shift(api.MaxMass), shift(-api.MaxMass)}
}

// couples returns cells of both phases: all that have few particles along the lines, some with more, and some with as many as can be.
func couples() [][2]api.Cell {
	var l [][2]api.Cell
	for i := range 3 * 3 * 3 * 3 {
		a, b := i%3, i/3%3
		c, d := i/9%3, i/27
		l = append(l, [2]api.Cell{{a, 0, b, 1}, {c, 1, d, 0}}, [2]api.Cell{{1, a, 2, b}, {2, c, 0, d}}, [2]api.Cell{{a, d, b, c}, {c, b, d, a}})
	}
	next := thrown(5)
	for range 200 {
		var both [2]api.Cell
		for dir := range 4 {
			both[0][dir], both[1][dir] = next(40), next(40)
		}
		l = append(l, both)
	}
	half := api.MaxMass / 2
	return append(l,
		[2]api.Cell{{half}, {0, 0, half}}, [2]api.Cell{{0, half}, {0, 0, 0, half}}, [2]api.Cell{{half}, {half}}, [2]api.Cell{{0, 0, 0, half}, {0, half}},
		[2]api.Cell{{api.MaxMass}, {}}, [2]api.Cell{{}, {0, 0, api.MaxMass}},
		[2]api.Cell{{half / 2, 0, half / 2}, {half / 2, 0, half / 2}}, [2]api.Cell{{125000000, 125000000, 125000000, 125000000}, {125000000, 125000000, 125000000, 125000000}},
		[2]api.Cell{{1, 499999998, 1}, {0, 1, 0, 499999999}})
}

func TestExchangeExamples(t *testing.T) {
	for _, x := range []struct {
		a, b api.Cell
		r    api.Rule
		line int
		c, d api.Cell
	}{
		{api.Cell{3}, api.Cell{1, 0, 2}, turn(), 0, api.Cell{1, 0, 2}, api.Cell{3}},
		{api.Cell{3}, api.Cell{1, 0, 2}, turn(), 1, api.Cell{3}, api.Cell{1, 0, 2}},
		{api.Cell{3}, api.Cell{1, 0, 2}, none(), 0, api.Cell{3}, api.Cell{1, 0, 2}},
		{api.Cell{3}, api.Cell{1, 0, 2}, shift(1), 0, api.Cell{1, 0, 2}, api.Cell{3}},
		{api.Cell{3}, api.Cell{1, 0, 2}, shift(2), 0, api.Cell{2, 0, 1}, api.Cell{2, 0, 1}},
		{api.Cell{3}, api.Cell{1, 0, 2}, shift(-1), 0, api.Cell{2, 0, 1}, api.Cell{2, 0, 1}},
		{api.Cell{3}, api.Cell{1, 0, 2}, shift(-3), 0, api.Cell{3}, api.Cell{1, 0, 2}},
		{api.Cell{2, 3, 5, 0}, api.Cell{4, 1, 2, 2}, turn(), 0, api.Cell{4, 3, 3, 0}, api.Cell{2, 1, 4, 2}},
		{api.Cell{2, 3, 5, 0}, api.Cell{4, 1, 2, 2}, turn(), 1, api.Cell{2, 1, 5, 2}, api.Cell{4, 3, 2, 0}},
		{api.Cell{0, 1, 0, 2}, api.Cell{0, 5, 0, 1}, shift(2), 1, api.Cell{0, 3}, api.Cell{0, 3, 0, 3}},
		{api.Cell{5}, api.Cell{5}, turn(), 0, api.Cell{5}, api.Cell{5}},
		{api.Cell{500000000}, api.Cell{0, 0, 500000000}, turn(), 0, api.Cell{0, 0, 500000000}, api.Cell{500000000}},
		{api.Cell{500000000}, api.Cell{0, 0, 500000000}, shift(api.MaxMass), 0, api.Cell{499999998, 0, 2}, api.Cell{2, 0, 499999998}},
	} {
		c, d, e := phase.Exchange(x.a, x.b, x.r, x.line)
		if c != x.c || d != x.d || e != api.OK {
			t.Errorf("Exchange(%v, %v, %v, %d) = %v, %v, %d, want %v, %v", x.a, x.b, x.r, x.line, c, d, e, x.c, x.d)
		}
		a, b, e := phase.Unexchange(x.c, x.d, x.r, x.line)
		if a != x.a || b != x.b || e != api.OK {
			t.Errorf("Unexchange(%v, %v, %v, %d) = %v, %v, %d, want %v, %v", x.c, x.d, x.r, x.line, a, b, e, x.a, x.b)
		}
	}
}

// exchange calls one of the two calls, which must succeed.
func exchange(t *testing.T, deed func(a, b api.Cell, r api.Rule, line int) (api.Cell, api.Cell, api.Errno), both [2]api.Cell, r api.Rule, line int) [2]api.Cell {
	t.Helper()
	c, d, e := deed(both[0], both[1], r, line)
	if e != api.OK {
		t.Fatalf("%v by %v along %d: error %d", both, r, line, e)
	}
	return [2]api.Cell{c, d}
}

func TestExchangeAsWritten(t *testing.T) {
	for _, both := range couples() {
		for _, r := range exchangeRules() {
			for line := range 2 {
				forth, back := exchange(t, phase.Exchange, both, r, line), exchange(t, phase.Unexchange, both, r, line)
				c, d := exchanged(both[0], both[1], r, line)
				if forth != [2]api.Cell{c, d} {
					t.Errorf("%v by %v along %d is %v, want %v, %v", both, r, line, forth, c, d)
				}
				c, d = exchanged(both[0], both[1], api.Rule{Kind: r.Kind, By: -r.By}, line)
				if back != [2]api.Cell{c, d} {
					t.Errorf("%v by %v along %d undone is %v, want %v, %v", both, r, line, back, c, d)
				}
				for _, after := range [][2]api.Cell{forth, back} {
					checkKept(t, both, after)
				}
			}
		}
	}
}

// checkKept checks that an exchange has kept the mass of each phase and the momentum of both, and all populations at least 0.
func checkKept(t *testing.T, before, after [2]api.Cell) {
	t.Helper()
	for i, c := range after {
		if mass([]api.Cell{c}) != mass([]api.Cell{before[i]}) || min(c[0], c[1], c[2], c[3]) < 0 {
			t.Errorf("%v became %v", before, after)
		}
	}
	if momentum(after[:]) != momentum(before[:]) {
		t.Errorf("%v became %v: another momentum", before, after)
	}
}

func TestUnexchange(t *testing.T) {
	for _, both := range couples() {
		for _, r := range exchangeRules() {
			for line := range 2 {
				if again := exchange(t, phase.Unexchange, exchange(t, phase.Exchange, both, r, line), r, line); again != both {
					t.Errorf("%v, exchanged by %v along %d and undone, is %v", both, r, line, again)
				}
				if again := exchange(t, phase.Exchange, exchange(t, phase.Unexchange, both, r, line), r, line); again != both {
					t.Errorf("%v, undone by %v along %d and exchanged, is %v", both, r, line, again)
				}
			}
			// The lines do not touch the same populations, so that their order makes no difference.
			one := exchange(t, phase.Exchange, exchange(t, phase.Exchange, both, r, 0), r, 1)
			other := exchange(t, phase.Exchange, exchange(t, phase.Exchange, both, r, 1), r, 0)
			if one != other {
				t.Errorf("%v by %v along both lines is %v or %v", both, r, one, other)
			}
		}
	}
}

// TestExchangeSwapped: by RNone and RTurn it makes no difference which of the phases is called A.
func TestExchangeSwapped(t *testing.T) {
	for _, both := range couples() {
		for _, r := range []api.Rule{none(), turn()} {
			for line := range 2 {
				after := exchange(t, phase.Exchange, both, r, line)
				if other := exchange(t, phase.Exchange, [2]api.Cell{both[1], both[0]}, r, line); other != [2]api.Cell{after[1], after[0]} {
					t.Errorf("%v by %v along %d is %v, swapped %v", both, r, line, after, other)
				}
				if r == none() && after != both {
					t.Errorf("%v by RNone is %v", both, after)
				}
			}
		}
	}
}

func TestExchangeErrors(t *testing.T) {
	good, most := api.Cell{1, 2, 3, 4}, api.Cell{0, api.MaxMass}
	type arguments struct {
		a, b api.Cell
		r    api.Rule
		line int
		e    api.Errno
	}
	l := []arguments{
		{most, api.Cell{}, turn(), 0, api.OK}, {api.Cell{}, most, turn(), 1, api.OK},
		{api.Cell{500000000}, api.Cell{0, 0, 0, 500000000}, turn(), 1, api.OK},
		{most, api.Cell{1}, turn(), 0, api.ErrLimit}, {api.Cell{0, 0, 1}, most, turn(), 1, api.ErrLimit}, {most, most, turn(), 0, api.ErrLimit},
		{api.Cell{500000000}, api.Cell{0, 500000001}, none(), 1, api.ErrLimit}, {good, api.Cell{0, 0, 0, 999999991}, none(), 0, api.ErrLimit},
	}
	for _, line := range []int{-1, 2, 3, math.MinInt, math.MaxInt} {
		l = append(l, arguments{good, good, turn(), line, api.ErrRange}, arguments{most, most, turn(), line, api.ErrRange})
	}
	for _, line := range []int{0, 1, 2, -1} {
		for _, bad := range []api.Cell{{-1}, {0, 0, 0, -1}, {1, -1}, {api.MaxMass, 1}, {api.MaxMass + 1}, {math.MaxInt, math.MaxInt, 2}, {math.MinInt, math.MinInt}} {
			l = append(l, arguments{bad, good, turn(), line, api.ErrInvalid}, arguments{good, bad, turn(), line, api.ErrInvalid}, arguments{bad, most, turn(), line, api.ErrInvalid}, arguments{bad, bad, turn(), line, api.ErrInvalid})
		}
		for _, r := range []api.Rule{{Kind: 3}, {Kind: -1}, {By: 1}, {Kind: api.RTurn, By: 1}, shift(api.MaxMass + 1), shift(-api.MaxMass - 1), shift(math.MinInt)} {
			l = append(l, arguments{good, good, r, line, api.ErrInvalid}, arguments{most, most, r, line, api.ErrInvalid})
		}
	}
	for _, x := range l {
		for _, deed := range []func(a, b api.Cell, r api.Rule, line int) (api.Cell, api.Cell, api.Errno){phase.Exchange, phase.Unexchange} {
			c, d, e := deed(x.a, x.b, x.r, x.line)
			if e != x.e || e != api.OK && (c != api.Cell{} || d != api.Cell{}) {
				t.Errorf("%v, %v by %v along %d: %v, %v, %d, want %d", x.a, x.b, x.r, x.line, c, d, e, x.e)
			}
		}
	}
}
