package phase_test

import (
	"math"
	"slices"
	"testing"

	"slipstream/api"
	"slipstream/cell"
	"slipstream/phase"
)

func none() api.Rule { return api.Rule{Kind: api.RNone} }

func turn() api.Rule { return api.Rule{Kind: api.RTurn} }

func shift(by int) api.Rule { return api.Rule{Kind: api.RShift, By: by} }

// thrown returns numbers from 0 to most-1 that look as if they were thrown; seed tells which.
func thrown(seed uint64) func(most int) int {
	return func(most int) int {
		seed = seed*6364136223846793005 + 1442695040888963407
		return int(seed>>33) % most
	}
}

// filled returns a mix with populations from 0 to most-1.
func filled(wide, high, most int, seed uint64) api.Mix {
	next := thrown(seed)
	x := empty(wide, high)
	for i := range x.A {
		for dir := range x.A[i] {
			x.A[i][dir], x.B[i][dir] = next(most), next(most)
		}
	}
	return x
}

func empty(wide, high int) api.Mix {
	return api.Mix{Wide: wide, High: high, A: make([]api.Cell, wide*high), B: make([]api.Cell, wide*high)}
}

// pictured returns a mix of rows of signs, the row with y = 0 first: A and B for cells of them, = for as much of both, and . for nothing.
func pictured(rows ...string) api.Mix {
	x := empty(len(rows[0]), len(rows))
	for y, row := range rows {
		for i, sign := range row {
			at := i + x.Wide*y
			switch sign {
			case 'A':
				x.A[at], x.B[at] = api.Cell{0, 2, 0, 1}, api.Cell{2}
			case 'B':
				x.A[at], x.B[at] = api.Cell{0, 0, 4}, api.Cell{1, 1, 1, 2}
			case '=':
				x.A[at], x.B[at] = api.Cell{3}, api.Cell{0, 1, 0, 2}
			}
		}
	}
	return x
}

func sides() [][2]int {
	return [][2]int{{1, 1}, {1, 2}, {2, 1}, {2, 2}, {1, 5}, {5, 1}, {3, 2}, {2, 3}, {3, 3}, {4, 3}, {3, 5}, {7, 7}, {1, 64}, {64, 1}, {64, 16}, {16, 64}, {32, 32}}
}

// mixes returns mixes of all kinds of sides: without particles, with few, with many, with one phase alone, and with as many particles as can be.
func mixes() []api.Mix {
	var l []api.Mix
	for i, s := range sides() {
		seed := uint64(11 * i)
		l = append(l, filled(s[0], s[1], 1, 0), filled(s[0], s[1], 2, seed+1), filled(s[0], s[1], 4, seed+2), filled(s[0], s[1], 100000, seed+3))
		alone := filled(s[0], s[1], 5, seed+4)
		alone.B = empty(s[0], s[1]).B
		other := filled(s[0], s[1], 5, seed+5)
		other.A = empty(s[0], s[1]).A
		full := empty(s[0], s[1])
		full.A[len(full.A)-1] = api.Cell{125000001, 124999999, 125000000, 125000003}
		full.B[len(full.B)-1] = api.Cell{124999999, 125000000, 125000002, 124999995}
		full.B[0][i%4]++
		l = append(l, alone, other, full)
	}
	return l
}

func smallMixes() []api.Mix {
	return slices.DeleteFunc(mixes(), func(x api.Mix) bool { return len(x.A) > 64 })
}

func invalidMixes() []api.Mix {
	cells := func(n int) []api.Cell { return make([]api.Cell, n) }
	l := []api.Mix{
		{}, {Wide: 1, High: 1}, {Wide: 1, High: 1, A: cells(1)}, {Wide: 1, High: 1, B: cells(1)},
		{Wide: 0, High: 1}, {Wide: 1, High: 0}, {Wide: 0, High: 1, A: cells(1), B: cells(1)}, {Wide: 1, High: 0, A: cells(1), B: cells(1)},
		{Wide: -1, High: -1, A: cells(1), B: cells(1)}, {Wide: -2, High: -2, A: cells(4), B: cells(4)},
		{Wide: 65, High: 1, A: cells(65), B: cells(65)}, {Wide: 1, High: 65, A: cells(65), B: cells(65)},
		{Wide: 64, High: 17, A: cells(64 * 17), B: cells(64 * 17)}, {Wide: 64, High: 64, A: cells(4096), B: cells(4096)},
		{Wide: 2, High: 2, A: cells(3), B: cells(4)}, {Wide: 2, High: 2, A: cells(4), B: cells(3)},
		{Wide: 2, High: 2, A: cells(5), B: cells(4)}, {Wide: 2, High: 2, A: cells(4), B: cells(5)},
		{Wide: 2, High: 2, A: cells(3), B: cells(5)}, {Wide: 2, High: 2, A: cells(5), B: cells(5)}, {Wide: 2, High: 2, A: cells(3), B: cells(3)},
		{Wide: 1 << 32, High: 1 << 32}, {Wide: math.MinInt, High: 2}, {Wide: math.MaxInt, High: math.MaxInt, A: cells(1), B: cells(1)},
	}
	for _, bad := range [][]api.Cell{
		{{-1}, {}}, {{}, {0, 0, 0, -1}}, {{5, -1}, {}}, {{math.MinInt}, {}}, {{}, {api.MaxMass, 1}}, {{api.MaxMass + 1}, {}},
		{{api.MaxMass}, {0, 0, 1}}, {{math.MaxInt, math.MaxInt, 2}, {}}, {{1 << 62, 1 << 62, 1 << 62, 1 << 62}, {}}, {{-5, 10}, {}},
	} {
		l = append(l, api.Mix{Wide: 2, High: 1, A: bad, B: cells(2)}, api.Mix{Wide: 1, High: 2, A: cells(2), B: bad}, api.Mix{Wide: 2, High: 1, A: bad, B: bad})
	}
	// What one of the phases has too few makes up for what the other one has too much.
	l = append(l, api.Mix{Wide: 1, High: 1, A: []api.Cell{{-1}}, B: []api.Cell{{2}}}, api.Mix{Wide: 1, High: 1, A: []api.Cell{{api.MaxMass + 1}}, B: []api.Cell{{-1}}})
	// Each of the phases is a valid grid, but both together have too much mass: in one cell, in two, and spread over many.
	l = append(l,
		api.Mix{Wide: 2, High: 1, A: []api.Cell{{api.MaxMass}, {}}, B: []api.Cell{{0, 1}, {}}},
		api.Mix{Wide: 2, High: 1, A: []api.Cell{{}, {0, 0, 0, 1}}, B: []api.Cell{{api.MaxMass}, {}}},
		api.Mix{Wide: 1, High: 2, A: []api.Cell{{api.MaxMass}, {}}, B: []api.Cell{{}, {0, 0, 0, api.MaxMass}}},
		api.Mix{Wide: 1, High: 2, A: []api.Cell{{500000000}, {}}, B: []api.Cell{{}, {500000000, 0, 1}}},
	)
	many := empty(32, 32)
	for i := range many.A {
		many.A[i], many.B[i] = api.Cell{488281}, api.Cell{0, 488281}
	}
	many.B[7][3] = 513
	return append(l, many)
}

func validRules() [][]api.Rule {
	return [][]api.Rule{
		{none()}, {turn()}, {shift(1)}, {shift(-api.MaxMass)}, {turn(), none()}, {shift(3), turn(), shift(-2)},
		{none(), turn(), shift(1), shift(2), shift(3), shift(-7), turn(), shift(123456789)},
	}
}

func invalidRules() [][]api.Rule {
	return [][]api.Rule{
		nil, {}, make([]api.Rule, api.MaxRules+1), {{Kind: 3}}, {{Kind: -1}}, {{Kind: api.RNone, By: 1}}, {{Kind: api.RTurn, By: -1}},
		{shift(api.MaxMass + 1)}, {shift(-api.MaxMass - 1)}, {turn(), none(), {Kind: 3}}, {shift(math.MinInt), turn()},
	}
}

// badNumbers are beyond every range of this package's calls.
func badNumbers() []int { return []int{-1, math.MinInt, math.MaxInt, api.MaxStep + 1} }

func mod(n, m int) int { return (n%m + m) % m }

// made returns what a rule makes of s, where there are all together, as section 'Cells and rules' of layer 1 writes it.
func made(s, all int, r api.Rule) int {
	switch r.Kind {
	case api.RTurn:
		return all - s
	case api.RShift:
		return mod(s+r.By, all+1)
	}
	return s
}

// exchanged exchanges two cells as section 'Two phases' writes it.
func exchanged(a, b api.Cell, r api.Rule, line int) (api.Cell, api.Cell) {
	if line == 0 {
		s, u := min(a[api.East], b[api.West]), min(a[api.West], b[api.East])
		more := made(s, s+u, r) - s
		return api.Cell{a[0] + more, a[1], a[2] - more, a[3]}, api.Cell{b[0] - more, b[1], b[2] + more, b[3]}
	}
	s, u := min(a[api.North], b[api.South]), min(a[api.South], b[api.North])
	more := made(s, s+u, r) - s
	return api.Cell{a[0], a[1] + more, a[2], a[3] - more}, api.Cell{b[0], b[1] - more, b[2], b[3] + more}
}

// stepped makes a step as section 'Two phases' writes it.
func stepped(x api.Mix, l, m []api.Rule, step int) api.Mix {
	a, b := slices.Clone(x.A), slices.Clone(x.B)
	for i := range a {
		a[i], _ = cell.Collide(a[i], l[step%len(l)])
		b[i], _ = cell.Collide(b[i], l[step%len(l)])
		a[i], b[i] = exchanged(a[i], b[i], m[step%len(m)], 0)
		a[i], b[i] = exchanged(a[i], b[i], m[step%len(m)], 1)
	}
	return api.Mix{Wide: x.Wide, High: x.High, A: streamed(x, a), B: streamed(x, b)}
}

// streamed tells for each cell what comes into it.
func streamed(x api.Mix, cells []api.Cell) []api.Cell {
	at := func(i, j int) api.Cell { return cells[mod(i, x.Wide)+x.Wide*mod(j, x.High)] }
	var to []api.Cell
	for j := range x.High {
		for i := range x.Wide {
			to = append(to, api.Cell{
				api.East:  at(i-1, j)[api.East],
				api.North: at(i, j-1)[api.North],
				api.West:  at(i+1, j)[api.West],
				api.South: at(i, j+1)[api.South],
			})
		}
	}
	return to
}

func mass(cells []api.Cell) int {
	n := 0
	for _, c := range cells {
		n += c[0] + c[1] + c[2] + c[3]
	}
	return n
}

// momentum is that of all cells of a list, or of more than one.
func momentum(lists ...[]api.Cell) api.Push {
	var p api.Push
	for _, c := range slices.Concat(lists...) {
		p.East += c[api.East] - c[api.West]
		p.North += c[api.North] - c[api.South]
	}
	return p
}

func swapped(x api.Mix) api.Mix {
	return api.Mix{Wide: x.Wide, High: x.High, A: x.B, B: x.A}
}

func equal(x, y api.Mix) bool {
	return x.Wide == y.Wide && x.High == y.High && slices.Equal(x.A, y.A) && slices.Equal(x.B, y.B)
}

func isZero(x api.Mix) bool {
	return x.Wide == 0 && x.High == 0 && len(x.A) == 0 && len(x.B) == 0
}

func isZeroGrid(g api.Grid) bool {
	return g.Wide == 0 && g.High == 0 && len(g.Cells) == 0
}

// done returns a function that passes the result of a call on which must succeed.
func done[T any](t *testing.T) func(T, api.Errno) T {
	return func(x T, e api.Errno) T {
		t.Helper()
		if e != api.OK {
			t.Fatalf("error %d", e)
		}
		return x
	}
}

// call is a function of a mix that returns a mix.
type call struct {
	name string
	do   func(x api.Mix) (api.Mix, api.Errno)
}

func stepCalls(l, m []api.Rule, step, n int) []call {
	return []call{
		{"Step", func(x api.Mix) (api.Mix, api.Errno) { return phase.Step(x, l, m, step) }},
		{"Back", func(x api.Mix) (api.Mix, api.Errno) { return phase.Back(x, l, m, step) }},
		{"Run", func(x api.Mix) (api.Mix, api.Errno) { return phase.Run(x, l, m, step, n) }},
		{"Undo", func(x api.Mix) (api.Mix, api.Errno) { return phase.Undo(x, l, m, step, n) }},
	}
}

// copies returns calls that give a mix again, or its swapped one.
func copies() []call {
	return []call{
		{"Swapped", phase.Swapped},
		{"Of", func(x api.Mix) (api.Mix, api.Errno) {
			return phase.Of(api.Grid{Wide: x.Wide, High: x.High, Cells: x.A}, api.Grid{Wide: x.Wide, High: x.High, Cells: x.B})
		}},
		{"Parts", func(x api.Mix) (api.Mix, api.Errno) {
			a, b, e := phase.Parts(x)
			return api.Mix{Wide: a.Wide, High: b.High, A: a.Cells, B: b.Cells}, e
		}},
		{"Parse", func(x api.Mix) (api.Mix, api.Errno) {
			y, _, e := phase.Parse(phase.Format(x))
			return y, e
		}},
	}
}
