package wall_test

import (
	"math"
	"slices"
	"testing"

	"slipstream/api"
	"slipstream/cell"
	"slipstream/wall"
)

func none() api.Rule { return api.Rule{Kind: api.RNone} }

func turn() api.Rule { return api.Rule{Kind: api.RTurn} }

func shift(by int) api.Rule { return api.Rule{Kind: api.RShift, By: by} }

// thrown returns numbers from 0 to most-1 that look as if they were thrown; seed tells which.
func thrown(seed uint64) func(most int) int {
	return func(most int) int {
		seed = seed*6364136223846793005 + 1442695040888963407
		return int(seed>>33) % most
	}
}

func filled(wide, high, most int, seed uint64) api.Grid {
	next := thrown(seed)
	g := api.Grid{Wide: wide, High: high, Cells: make([]api.Cell, wide*high)}
	for i := range g.Cells {
		for dir := range g.Cells[i] {
			g.Cells[i][dir] = next(most)
		}
	}
	return g
}

func sides() [][2]int {
	return [][2]int{{1, 1}, {1, 2}, {2, 1}, {2, 2}, {1, 5}, {5, 1}, {3, 2}, {2, 3}, {4, 3}, {3, 5}, {7, 7}, {1, 64}, {64, 1}, {64, 16}, {16, 64}, {32, 32}}
}

func opened(g api.Grid) api.Wall {
	return api.Wall{Kind: make([]int, len(g.Cells)), Body: make([]int, len(g.Cells))}
}

// scattered returns a wall of which about one cell in `one` is open, the others of all kinds and bodies.
func scattered(g api.Grid, one int, seed uint64) api.Wall {
	next := thrown(seed)
	w := opened(g)
	for i := range w.Kind {
		if next(one) != 0 {
			w.Kind[i], w.Body[i] = 1+next(3), 1+next(api.MaxBodies)
		}
	}
	return w
}

// sparse returns a wall of which about one cell in `one` is not open.
func sparse(g api.Grid, one int, seed uint64) api.Wall {
	next := thrown(seed)
	w := opened(g)
	for i := range w.Kind {
		if next(one) == 0 {
			w.Kind[i], w.Body[i] = 1+next(3), 1+next(api.MaxBodies)
		}
	}
	return w
}

func uniform(g api.Grid, kind, body int) api.Wall {
	w := opened(g)
	for i := range w.Kind {
		w.Kind[i], w.Body[i] = kind, body
	}
	return w
}

func validWalls(g api.Grid) []api.Wall {
	return []api.Wall{
		opened(g), uniform(g, api.WBack, 1), uniform(g, api.WSlash, 9), uniform(g, api.WBlash, 5),
		scattered(g, 2, 1), scattered(g, 9, 2), sparse(g, 3, 3), sparse(g, 12, 4),
	}
}

// both is a grid and a wall for it.
type both struct {
	g api.Grid
	w api.Wall
}

// places returns walls of all sorts in grids of all sorts.
func places() []both {
	var l []both
	for i, s := range sides() {
		for j, most := range []int{1, 4, 200000} {
			g := filled(s[0], s[1], most, uint64(7*i+j))
			for _, w := range validWalls(g) {
				l = append(l, both{g, w})
			}
		}
		full := filled(s[0], s[1], 1, 0)
		full.Cells[len(full.Cells)-1] = api.Cell{250000001, 249999999, 250000000, 249999999}
		full.Cells[0][i%4]++
		l = append(l, both{full, scattered(full, 3, uint64(i))})
	}
	return l
}

func smallPlaces() []both {
	return slices.DeleteFunc(places(), func(x both) bool { return len(x.g.Cells) > 64 })
}

// invalidPlaces returns grids and walls of which the one, the other or both are not valid.
func invalidPlaces() []both {
	var l []both
	for _, bad := range []api.Grid{
		{}, {Wide: 2, High: 2}, {Wide: 0, High: 1}, {Wide: -1, High: -1, Cells: make([]api.Cell, 1)},
		{Wide: 65, High: 1, Cells: make([]api.Cell, 65)}, {Wide: 64, High: 17, Cells: make([]api.Cell, 64*17)},
		{Wide: 2, High: 2, Cells: make([]api.Cell, 3)}, {Wide: 2, High: 2, Cells: make([]api.Cell, 5)},
		{Wide: 1 << 32, High: 1 << 32}, {Wide: math.MinInt, High: 2}, {Wide: math.MaxInt, High: math.MaxInt, Cells: make([]api.Cell, 1)},
		{Wide: 2, High: 1, Cells: []api.Cell{{}, {0, 0, -1}}}, {Wide: 2, High: 1, Cells: []api.Cell{{api.MaxMass}, {0, 1}}},
		{Wide: 1, High: 2, Cells: []api.Cell{{api.MaxMass, 1}, {}}}, {Wide: 1, High: 1, Cells: []api.Cell{{math.MaxInt, math.MaxInt, 2}}},
	} {
		l = append(l, both{bad, opened(bad)}, both{bad, uniform(bad, api.WBack, 1)}, both{bad, api.Wall{}}, both{bad, api.Wall{Kind: []int{7}}})
	}
	for _, s := range [][2]int{{1, 1}, {2, 2}, {3, 2}} {
		g := filled(s[0], s[1], 4, 1)
		n := len(g.Cells)
		for _, w := range []api.Wall{
			{}, {Kind: make([]int, n)}, {Body: make([]int, n)}, {Kind: make([]int, n-1), Body: make([]int, n-1)}, {Kind: make([]int, n+1), Body: make([]int, n+1)},
			{Kind: make([]int, n), Body: make([]int, n-1)}, {Kind: make([]int, n), Body: make([]int, n+1)}, {Kind: make([]int, n-1), Body: make([]int, n)}, {Kind: make([]int, n+1), Body: make([]int, n)},
		} {
			l = append(l, both{g, w})
		}
		for _, x := range [][2]int{
			{0, 1}, {0, 9}, {0, -1}, {0, math.MinInt}, {1, 0}, {2, 0}, {3, 0}, {1, 10}, {2, 10}, {3, 10}, {1, -1}, {3, math.MaxInt}, {2, math.MinInt},
			{4, 0}, {4, 1}, {-1, 0}, {-1, 1}, {math.MaxInt, 1}, {math.MinInt, 1}, {math.MinInt, 0}, {4, 10},
		} {
			for _, i := range []int{0, n - 1} {
				w := scattered(g, 2, 5)
				w.Kind[i], w.Body[i] = x[0], x[1]
				l = append(l, both{g, w})
			}
		}
	}
	return l
}

func validRules() [][]api.Rule {
	return [][]api.Rule{
		{none()}, {turn()}, {shift(1)}, {shift(-api.MaxMass)}, {turn(), none()}, {shift(3), turn(), shift(-2)},
		{none(), turn(), shift(1), shift(2), shift(3), shift(-7), turn(), shift(123456789)},
	}
}

func invalidRules() [][]api.Rule {
	return [][]api.Rule{
		nil, {}, make([]api.Rule, api.MaxRules+1), {{Kind: 3}}, {{Kind: -1}}, {{Kind: api.RTurn, By: -1}},
		{shift(api.MaxMass + 1)}, {turn(), none(), {Kind: 3}}, {shift(math.MinInt), turn()},
	}
}

// badNumbers are beyond every range of this package's calls.
func badNumbers() []int { return []int{-1, math.MinInt, math.MaxInt, 2000000} }

func badPoints(g api.Grid) []api.Point {
	l := []api.Point{
		{X: -1}, {Y: -1}, {X: g.Wide}, {Y: g.High}, {X: g.Wide, Y: -1}, {X: -1, Y: 1},
		{X: math.MinInt}, {Y: math.MinInt}, {X: math.MaxInt}, {Y: math.MaxInt}, {X: math.MaxInt, Y: math.MaxInt}, {X: g.Wide * g.High},
	}
	return l
}

func mod(n, m int) int { return (n%m + m) % m }

func at(g api.Grid, x, y int) api.Cell { return g.Cells[mod(x, g.Wide)+g.Wide*mod(y, g.High)] }

// afterWall tells where the particles go, kind by kind, as section 'Walls' writes it.
func afterWall(c api.Cell, kind int) api.Cell {
	switch kind {
	case api.WBack:
		return api.Cell{api.West: c[api.East], api.South: c[api.North], api.East: c[api.West], api.North: c[api.South]}
	case api.WSlash:
		return api.Cell{api.North: c[api.East], api.East: c[api.North], api.South: c[api.West], api.West: c[api.South]}
	case api.WBlash:
		return api.Cell{api.South: c[api.East], api.East: c[api.South], api.North: c[api.West], api.West: c[api.North]}
	}
	return c
}

// stepped makes a step as section 'Walls' writes it.
func stepped(g api.Grid, w api.Wall, l []api.Rule, step int) api.Grid {
	h := api.Grid{Wide: g.Wide, High: g.High}
	for i, c := range g.Cells {
		if w.Kind[i] == api.WOpen {
			c, _ = cell.Collide(c, l[step%len(l)])
		} else {
			c = afterWall(c, w.Kind[i])
		}
		h.Cells = append(h.Cells, c)
	}
	to := filled(g.Wide, g.High, 1, 0)
	for i := range to.Cells {
		x, y := i%g.Wide, i/g.Wide
		to.Cells[i] = api.Cell{
			api.East:  at(h, x-1, y)[api.East],
			api.North: at(h, x, y-1)[api.North],
			api.West:  at(h, x+1, y)[api.West],
			api.South: at(h, x, y+1)[api.South],
		}
	}
	return to
}

// given returns what the walls of a body give in the next step, as section 'Walls' writes it.
func given(g api.Grid, w api.Wall, body int) api.Push {
	var p api.Push
	for i, c := range g.Cells {
		if w.Body[i] == body {
			d := afterWall(c, w.Kind[i])
			p.East += d[api.East] - d[api.West] - c[api.East] + c[api.West]
			p.North += d[api.North] - d[api.South] - c[api.North] + c[api.South]
		}
	}
	return p
}

func momentum(g api.Grid) api.Push {
	var p api.Push
	for _, c := range g.Cells {
		p.East += c[api.East] - c[api.West]
		p.North += c[api.North] - c[api.South]
	}
	return p
}

func mass(g api.Grid) int {
	n := 0
	for _, c := range g.Cells {
		n += c[0] + c[1] + c[2] + c[3]
	}
	return n
}

func equal(a, b api.Grid) bool {
	return a.Wide == b.Wide && a.High == b.High && slices.Equal(a.Cells, b.Cells)
}

func equalWalls(a, b api.Wall) bool {
	return slices.Equal(a.Kind, b.Kind) && slices.Equal(a.Body, b.Body)
}

func isZero(g api.Grid) bool {
	return g.Wide == 0 && g.High == 0 && len(g.Cells) == 0
}

func isZeroWall(w api.Wall) bool {
	return len(w.Kind) == 0 && len(w.Body) == 0
}

// done returns a function that passes the result of a call on which must succeed.
func done[T any](t *testing.T) func(T, api.Errno) T {
	return func(x T, e api.Errno) T {
		t.Helper()
		if e != api.OK {
			t.Fatalf("error %d", e)
		}
		return x
	}
}

// gridCall is a function of a grid in a wall that returns a grid.
type gridCall struct {
	name string
	do   func(g api.Grid, w api.Wall) (api.Grid, api.Errno)
}

func gridCalls(l []api.Rule, step, n int) []gridCall {
	return []gridCall{
		{"Step", func(g api.Grid, w api.Wall) (api.Grid, api.Errno) { return wall.Step(g, w, l, step) }},
		{"Back", func(g api.Grid, w api.Wall) (api.Grid, api.Errno) { return wall.Back(g, w, l, step) }},
		{"Run", func(g api.Grid, w api.Wall) (api.Grid, api.Errno) { return wall.Run(g, w, l, step, n) }},
		{"Undo", func(g api.Grid, w api.Wall) (api.Grid, api.Errno) { return wall.Undo(g, w, l, step, n) }},
	}
}

// wallCall is a function of a grid and a wall that returns a wall.
type wallCall struct {
	name string
	do   func(g api.Grid, w api.Wall) (api.Wall, api.Errno)
}

// putCalls returns the calls that put walls in.
func putCalls(p, q api.Point, number, kind, body int) []wallCall {
	return []wallCall{
		{"Disc", func(g api.Grid, w api.Wall) (api.Wall, api.Errno) { return wall.Disc(g, w, p, number, body) }},
		{"Smooth", func(g api.Grid, w api.Wall) (api.Wall, api.Errno) { return wall.Smooth(g, w, p, number, body) }},
		{"Box", func(g api.Grid, w api.Wall) (api.Wall, api.Errno) { return wall.Box(g, w, p, q, kind, body) }},
		{"Slope up", func(g api.Grid, w api.Wall) (api.Wall, api.Errno) { return wall.Slope(g, w, p, number, true, body) }},
		{"Slope down", func(g api.Grid, w api.Wall) (api.Wall, api.Errno) { return wall.Slope(g, w, p, number, false, body) }},
	}
}

// listCall is a function of a grid and a wall that returns a list.
type listCall struct {
	name string
	do   func(g api.Grid, w api.Wall) ([]int, api.Errno)
}

func listCalls(p api.Point, body int) []listCall {
	return []listCall{
		{"Bodies", wall.Bodies},
		{"Cells", func(g api.Grid, w api.Wall) ([]int, api.Errno) { return wall.Cells(g, w, body) }},
		{"Closed", func(g api.Grid, w api.Wall) ([]int, api.Errno) { return wall.Closed(g, w, p) }},
	}
}
