package grid_test

import (
	"math"
	"slices"
	"testing"

	"slipstream/api"
	"slipstream/cell"
	"slipstream/grid"
)

func none() api.Rule { return api.Rule{Kind: api.RNone} }

func turn() api.Rule { return api.Rule{Kind: api.RTurn} }

func shift(by int) api.Rule { return api.Rule{Kind: api.RShift, By: by} }

// filled returns a grid with populations from 0 to most-1 that look as if they were thrown; seed tells which.
func filled(wide, high, most int, seed uint64) api.Grid {
	g := api.Grid{Wide: wide, High: high, Cells: make([]api.Cell, wide*high)}
	for i := range g.Cells {
		for dir := range g.Cells[i] {
			seed = seed*6364136223846793005 + 1442695040888963407
			g.Cells[i][dir] = int(seed>>33) % most
		}
	}
	return g
}

func sides() [][2]int {
	return [][2]int{{1, 1}, {1, 2}, {2, 1}, {2, 2}, {1, 5}, {5, 1}, {3, 2}, {2, 3}, {4, 3}, {3, 5}, {7, 7}, {1, 64}, {64, 1}, {64, 16}, {16, 64}, {32, 32}}
}

// validGrids returns grids of all kinds of sides: without particles, with few and with many, and with as many as can be.
func validGrids() []api.Grid {
	var l []api.Grid
	for i, s := range sides() {
		l = append(l, filled(s[0], s[1], 1, 0))
		l = append(l, filled(s[0], s[1], 3, uint64(i)))
		l = append(l, filled(s[0], s[1], 200000, uint64(i)+100))
		full := filled(s[0], s[1], 1, 0)
		full.Cells[len(full.Cells)-1] = api.Cell{250000001, 249999999, 250000000, 249999999}
		full.Cells[0][i%4]++
		l = append(l, full)
	}
	return l
}

func smallGrids() []api.Grid {
	var l []api.Grid
	for _, g := range validGrids() {
		if len(g.Cells) <= 64 {
			l = append(l, g)
		}
	}
	return l
}

func invalidGrids() []api.Grid {
	l := []api.Grid{
		{}, {Wide: 1, High: 1}, {Wide: 0, High: 1}, {Wide: 1, High: 0},
		{Wide: 0, High: 1, Cells: make([]api.Cell, 1)}, {Wide: 1, High: 0, Cells: make([]api.Cell, 1)},
		{Wide: -1, High: -1, Cells: make([]api.Cell, 1)}, {Wide: -2, High: -3, Cells: make([]api.Cell, 6)},
		{Wide: 65, High: 1, Cells: make([]api.Cell, 65)}, {Wide: 1, High: 65, Cells: make([]api.Cell, 65)},
		{Wide: 64, High: 17, Cells: make([]api.Cell, 64*17)}, {Wide: 17, High: 64, Cells: make([]api.Cell, 64*17)},
		{Wide: 64, High: 64, Cells: make([]api.Cell, 64*64)}, {Wide: 1025, High: 1, Cells: make([]api.Cell, 1025)},
		{Wide: 2, High: 2, Cells: make([]api.Cell, 3)}, {Wide: 2, High: 2, Cells: make([]api.Cell, 5)},
		// The product of these sides is 0 or 4 if it overflows.
		{Wide: 1 << 32, High: 1 << 32}, {Wide: math.MinInt, High: 2}, {Wide: math.MinInt, High: math.MinInt},
		{Wide: 1<<62 + 1, High: 4, Cells: make([]api.Cell, 4)}, {Wide: math.MaxInt, High: math.MaxInt, Cells: make([]api.Cell, 1)},
	}
	for _, bad := range [][]api.Cell{
		{{-1}, {}}, {{0, -1}, {5}}, {{}, {0, 0, -1}}, {{}, {5, 5, 5, -1}}, {{math.MinInt}, {}}, {{-5, 10}, {}},
		{{api.MaxMass + 1}, {}}, {{}, {api.MaxMass, 1}}, {{1 << 62, 1 << 62, 1 << 62, 1 << 62}, {}}, {{math.MaxInt, math.MaxInt, 2}, {}},
		{{api.MaxMass}, {1}}, {{0, 1}, {0, 0, api.MaxMass}}, {{500000000}, {500000000, 0, 0, 1}}, {{api.MaxMass}, {api.MaxMass}},
	} {
		l = append(l, api.Grid{Wide: 2, High: 1, Cells: bad}, api.Grid{Wide: 1, High: 2, Cells: bad})
	}
	// Each cell is valid; all together have one particle too many.
	many := filled(32, 32, 1, 0)
	for i := range many.Cells {
		many.Cells[i] = api.Cell{976562, 0, 0, 0}
	}
	many.Cells[7][3] = 513
	return append(l, many)
}

func validRules() [][]api.Rule {
	return [][]api.Rule{
		{none()}, {turn()}, {shift(0)}, {shift(1)}, {shift(-1)}, {shift(api.MaxMass)}, {shift(-api.MaxMass)},
		{turn(), none()}, {shift(3), turn(), shift(-2)},
		{none(), turn(), shift(1), shift(2), shift(3), shift(-7), turn(), shift(123456789)},
	}
}

func invalidRules() [][]api.Rule {
	return [][]api.Rule{
		nil, {}, make([]api.Rule, api.MaxRules+1), {{Kind: 3}}, {{Kind: -1}}, {{Kind: api.RNone, By: 1}}, {{Kind: api.RTurn, By: -1}},
		{shift(api.MaxMass + 1)}, {shift(-api.MaxMass - 1)}, {turn(), none(), {Kind: 3}}, {shift(math.MinInt), turn()},
	}
}

func mod(n, m int) int { return (n%m + m) % m }

func at(g api.Grid, x, y int) api.Cell { return g.Cells[mod(x, g.Wide)+g.Wide*mod(y, g.High)] }

// streamed tells for each cell what comes into it, as section 'Steps' writes it.
func streamed(g api.Grid) api.Grid {
	h := filled(g.Wide, g.High, 1, 0)
	for y := range g.High {
		for x := range g.Wide {
			h.Cells[x+g.Wide*y] = api.Cell{
				api.East:  at(g, x-1, y)[api.East],
				api.North: at(g, x, y-1)[api.North],
				api.West:  at(g, x+1, y)[api.West],
				api.South: at(g, x, y+1)[api.South],
			}
		}
	}
	return h
}

// stepped makes a step as section 'Steps' writes it.
func stepped(t *testing.T, g api.Grid, l []api.Rule, step int) api.Grid {
	t.Helper()
	h := api.Grid{Wide: g.Wide, High: g.High}
	for _, c := range g.Cells {
		d, e := cell.Collide(c, l[step%len(l)])
		if e != api.OK {
			t.Fatalf("Collide(%v): error %d", c, e)
		}
		h.Cells = append(h.Cells, d)
	}
	return streamed(h)
}

func equal(a, b api.Grid) bool {
	return a.Wide == b.Wide && a.High == b.High && slices.Equal(a.Cells, b.Cells)
}

func isZero(g api.Grid) bool {
	return g.Wide == 0 && g.High == 0 && len(g.Cells) == 0
}

// done returns a function that passes the grid of a call on which must succeed.
func done(t *testing.T) func(api.Grid, api.Errno) api.Grid {
	return func(g api.Grid, e api.Errno) api.Grid {
		t.Helper()
		if e != api.OK {
			t.Fatalf("error %d", e)
		}
		return g
	}
}

func put(t *testing.T, g api.Grid, x, y, dir, n int) api.Grid {
	t.Helper()
	return done(t)(grid.Put(g, api.Point{X: x, Y: y}, dir, n))
}

// call is a function of a grid that returns a grid; its other arguments are valid for grids of all sides.
type call struct {
	name string
	do   func(g api.Grid) (api.Grid, api.Errno)
}

func calls() []call {
	l := []api.Rule{turn(), shift(3)}
	empty := func(g api.Grid) api.Grid {
		return api.Grid{Wide: g.Wide, High: g.High, Cells: make([]api.Cell, len(g.Cells))}
	}
	return []call{
		{"Stream", grid.Stream},
		{"Unstream", grid.Unstream},
		{"Step", func(g api.Grid) (api.Grid, api.Errno) { return grid.Step(g, l, 1) }},
		{"Back", func(g api.Grid) (api.Grid, api.Errno) { return grid.Back(g, l, 1) }},
		{"Run", func(g api.Grid) (api.Grid, api.Errno) { return grid.Run(g, l, 1, 3) }},
		{"Run of 2", func(g api.Grid) (api.Grid, api.Errno) { return grid.Run(g, l, 0, 2) }},
		{"Run of 0", func(g api.Grid) (api.Grid, api.Errno) { return grid.Run(g, l, 1, 0) }},
		{"Undo", func(g api.Grid) (api.Grid, api.Errno) { return grid.Undo(g, l, 1, 3) }},
		{"Undo of 0", func(g api.Grid) (api.Grid, api.Errno) { return grid.Undo(g, l, 1, 0) }},
		{"Reversed", grid.Reversed},
		{"Put", func(g api.Grid) (api.Grid, api.Errno) { return grid.Put(g, api.Point{}, 2, 0) }},
		{"Take", func(g api.Grid) (api.Grid, api.Errno) { return grid.Take(g, api.Point{}, 2, 0) }},
		{"Shifted", func(g api.Grid) (api.Grid, api.Errno) { return grid.Shifted(g, 1, 2) }},
		{"Shifted by 0", func(g api.Grid) (api.Grid, api.Errno) { return grid.Shifted(g, 0, 0) }},
		{"Turned", grid.Turned},
		{"Mirrored", grid.Mirrored},
		{"Added first", func(g api.Grid) (api.Grid, api.Errno) { return grid.Added(g, empty(g)) }},
		{"Added second", func(g api.Grid) (api.Grid, api.Errno) { return grid.Added(empty(g), g) }},
	}
}
