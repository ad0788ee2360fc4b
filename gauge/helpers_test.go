package gauge_test

import (
	"math"
	"slices"
	"testing"

	"slipstream/api"
	"slipstream/cell"
	"slipstream/wall"
)

func none() api.Rule { return api.Rule{Kind: api.RNone} }

func turn() api.Rule { return api.Rule{Kind: api.RTurn} }

func shift(by int) api.Rule { return api.Rule{Kind: api.RShift, By: by} }

func validRules() [][]api.Rule {
	return [][]api.Rule{{none()}, {turn()}, {shift(3), turn(), shift(-2)}, {none(), turn(), shift(1), shift(2), shift(3), shift(-7), turn(), shift(123456789)}}
}

func invalidRules() [][]api.Rule {
	return [][]api.Rule{nil, {}, make([]api.Rule, api.MaxRules+1), {{Kind: 3}}, {{Kind: -1}}, {{Kind: api.RTurn, By: 1}}, {turn(), shift(api.MaxMass + 1)}, {shift(math.MinInt), turn()}}
}

// thrown returns numbers from 0 to most-1 that look as if they were thrown; seed tells which.
func thrown(seed uint64) func(most int) int {
	return func(most int) int {
		seed = seed*6364136223846793005 + 1442695040888963407
		return int(seed>>33) % most
	}
}

func empty(wide, high int) api.Grid {
	return api.Grid{Wide: wide, High: high, Cells: make([]api.Cell, wide*high)}
}

func filled(wide, high, most int, seed uint64) api.Grid {
	next := thrown(seed)
	g := empty(wide, high)
	for i := range g.Cells {
		for dir := range 4 {
			g.Cells[i][dir] = next(most)
		}
	}
	return g
}

func open(g api.Grid) api.Wall {
	return api.Wall{Kind: make([]int, len(g.Cells)), Body: make([]int, len(g.Cells))}
}

// sparse returns a wall of which about one cell in `one` is not open.
func sparse(g api.Grid, one int, seed uint64) api.Wall {
	next := thrown(seed)
	w := open(g)
	for i := range w.Kind {
		if next(one) == 0 {
			w.Kind[i], w.Body[i] = 1+next(3), 1+next(api.MaxBodies)
		}
	}
	return w
}

// place is a grid and a wall for it.
type place struct {
	g api.Grid
	w api.Wall
}

// places returns walls of many sorts in grids of many sorts, among them the fullest ones.
func places() []place {
	var l []place
	for i, s := range [][2]int{{1, 1}, {1, 2}, {2, 1}, {2, 2}, {1, 5}, {5, 1}, {3, 2}, {2, 3}, {4, 3}, {5, 5}, {64, 1}, {1, 64}, {16, 64}} {
		few := filled(s[0], s[1], 4, uint64(i))
		many := filled(s[0], s[1], 200000, uint64(i)+100)
		full := empty(s[0], s[1])
		full.Cells[0] = api.Cell{250000001, 249999999, 250000000, 249999999}
		full.Cells[len(full.Cells)-1][i%4]++
		for j, g := range []api.Grid{few, many, full} {
			l = append(l, place{g, open(g)}, place{g, sparse(g, 3, uint64(i+j))}, place{g, sparse(g, 1, uint64(i+j))})
		}
	}
	return l
}

// invalidPlaces returns grids and walls of which the one, the other or both are not valid.
func invalidPlaces() []place {
	var l []place
	for _, g := range invalidGrids() {
		l = append(l, place{g, open(g)}, place{g, api.Wall{}})
	}
	for _, x := range [][2]int{{0, 1}, {1, 0}, {1, 10}, {4, 1}, {-1, 1}, {4, 0}, {math.MinInt, math.MaxInt}} {
		g := filled(3, 2, 4, 1)
		w := open(g)
		w.Kind[5], w.Body[5] = x[0], x[1]
		l = append(l, place{g, w})
	}
	g := filled(3, 2, 4, 1)
	return append(l, place{g, api.Wall{}}, place{g, open(empty(3, 1))}, place{g, open(empty(3, 3))}, place{g, api.Wall{Kind: make([]int, 6)}}, place{g, api.Wall{Body: make([]int, 6)}})
}

func invalidGrids() []api.Grid {
	return []api.Grid{
		{}, {Wide: 1, High: 1}, {Wide: -2, High: -2, Cells: make([]api.Cell, 4)}, {Wide: 3, High: 2, Cells: make([]api.Cell, 5)}, {Wide: 3, High: 2, Cells: make([]api.Cell, 7)},
		empty(65, 1), empty(1, 65), empty(64, 17), {Wide: math.MaxInt, High: math.MaxInt, Cells: make([]api.Cell, 1)}, {Wide: 1 << 62, High: 4}, {Wide: math.MinInt, High: 2},
		{Wide: 2, High: 1, Cells: []api.Cell{{}, {0, 0, -1}}}, {Wide: 2, High: 1, Cells: []api.Cell{{api.MaxMass}, {0, 1}}}, {Wide: 1, High: 1, Cells: []api.Cell{{math.MaxInt, math.MaxInt, 2}}},
	}
}

func badPoints(g api.Grid) []api.Point {
	return []api.Point{
		{X: -1}, {Y: -1}, {X: g.Wide}, {Y: g.High}, {X: g.Wide, Y: -1}, {X: -1, Y: 1}, {X: g.Wide * g.High},
		{X: math.MinInt}, {Y: math.MinInt}, {X: math.MaxInt}, {Y: math.MaxInt}, {X: math.MaxInt, Y: math.MinInt},
	}
}

// corners are two corners of a box.
type corners struct{ a, b api.Point }

// boxes returns all boxes of a grid, each by any two of its corners; of a great grid only some.
func boxes(g api.Grid) []corners {
	var l []corners
	xs, ys := someBelow(g.Wide), someBelow(g.High)
	for _, x0 := range xs {
		for _, x1 := range xs {
			for _, y0 := range ys {
				for _, y1 := range ys {
					l = append(l, corners{api.Point{X: x0, Y: y0}, api.Point{X: x1, Y: y1}})
				}
			}
		}
	}
	return l
}

func someBelow(n int) []int {
	var l []int
	for i := range n {
		if n <= 5 || i < 2 || i > n-3 {
			l = append(l, i)
		}
	}
	return l
}

// has reports whether the cell (x, y) is in a box.
func (c corners) has(x, y int) bool {
	between := func(n, a, b int) bool { return a <= n && n <= b || b <= n && n <= a }
	return between(x, c.a.X, c.b.X) && between(y, c.a.Y, c.b.Y)
}

// worth is the momentum of a particle, by axis and direction.
func worth(axis, dir int) int {
	return [2][4]int{{api.East: 1, api.West: -1}, {api.North: 1, api.South: -1}}[axis][dir]
}

func momentumIn(g api.Grid, c corners, axis int) int {
	n := 0
	for y := range g.High {
		for x := range g.Wide {
			for dir, count := range g.Cells[x+g.Wide*y] {
				if c.has(x, y) {
					n += worth(axis, dir) * count
				}
			}
		}
	}
	return n
}

// sentCell is what a cell has in a step before its particles stream.
func sentCell(x place, l []api.Rule, t, i int) api.Cell {
	var c api.Cell
	if x.w.Kind[i] == api.WOpen {
		c, _ = cell.Collide(x.g.Cells[i], l[t%len(l)])
	} else {
		c, _ = wall.Sent(x.g.Cells[i], x.w.Kind[i])
	}
	return c
}

// fluxOf follows all particles of a step from where they are to where they come.
func fluxOf(p place, l []api.Rule, t int, c corners, axis int) (in, out int) {
	g := p.g
	for y := range g.High {
		for x := range g.Wide {
			for dir, n := range sentCell(p, l, t, x+g.Wide*y) {
				toX := (x + [4]int{1, 0, g.Wide - 1, 0}[dir]) % g.Wide
				toY := (y + [4]int{0, 1, 0, g.High - 1}[dir]) % g.High
				if !c.has(x, y) && c.has(toX, toY) {
					in += worth(axis, dir) * n
				}
				if c.has(x, y) && !c.has(toX, toY) {
					out += worth(axis, dir) * n
				}
			}
		}
	}
	return in, out
}

// impulseIn is what all walls in a box give in the next step.
func impulseIn(p place, c corners, axis int) int {
	sum := 0
	for i, kind := range p.w.Kind {
		if kind != api.WOpen && c.has(i%p.g.Wide, i/p.g.Wide) {
			sent, _ := wall.Sent(p.g.Cells[i], kind)
			for dir := range 4 {
				sum += worth(axis, dir) * (sent[dir] - p.g.Cells[i][dir])
			}
		}
	}
	return sum
}

func one(n int) api.Span { return api.Span{Lo: n, Hi: n} }

// telling returns a gauge that tells from lo to hi.
func telling(from, to, lo, hi int) api.Gauge {
	return api.Gauge{From: from, To: to, Before: api.Span{Lo: lo, Hi: hi}}
}

func validSpans() []api.Span {
	return []api.Span{{}, one(1), one(-1), {Lo: -1}, {Hi: 1}, {Lo: 5, Hi: 6}, {Lo: -7, Hi: -3}, one(api.MaxMass), one(-api.MaxMass), {Lo: -api.MaxMass, Hi: api.MaxMass}, {Lo: -api.MaxMass, Hi: -api.MaxMass + 1}, {Lo: api.MaxMass - 1, Hi: api.MaxMass}}
}

func invalidSpans() []api.Span {
	return []api.Span{
		{Lo: 1}, {Hi: -1}, {Lo: 6, Hi: 5}, {Hi: api.MaxMass + 1}, {Lo: -api.MaxMass - 1}, one(api.MaxMass + 1), one(-api.MaxMass - 1), {Lo: -api.MaxMass - 1, Hi: api.MaxMass + 1}, {Lo: api.MaxMass, Hi: -api.MaxMass},
		{Lo: api.MaxMass + 1, Hi: -api.MaxMass - 1}, one(math.MaxInt), one(math.MinInt), {Lo: math.MinInt, Hi: math.MaxInt}, {Lo: math.MaxInt, Hi: math.MinInt}, {Lo: math.MinInt}, {Hi: math.MaxInt}, {Lo: math.MaxInt, Hi: math.MaxInt - 1},
	}
}

// withSpan returns a gauge in which one of the four spans is another one.
func withSpan(g api.Gauge, which int, s api.Span) api.Gauge {
	*[4]*api.Span{&g.Before, &g.In, &g.Out, &g.After}[which] = s
	return g
}

func middle() api.Gauge {
	return api.Gauge{From: 2, To: 5, Before: api.Span{Lo: 5, Hi: 6}, In: one(2), Out: one(1), After: api.Span{Lo: -3, Hi: 3}}
}

// validGauges returns gauges with all sorts of stretches and spans.
func validGauges() []api.Gauge {
	var l []api.Gauge
	for _, x := range [][2]int{{0, 1}, {0, 2}, {1, 2}, {0, api.MaxStep}, {api.MaxStep - 1, api.MaxStep}, {3, 1003}, {7, 5000}} {
		g := middle()
		g.From, g.To = x[0], x[1]
		l = append(l, g)
	}
	for which := range 4 {
		for _, s := range validSpans() {
			l = append(l, withSpan(middle(), which, s))
		}
	}
	next := thrown(5)
	spans := validSpans()
	for range 200 {
		g := middle()
		for which := range 4 {
			g = withSpan(g, which, spans[next(len(spans))])
		}
		l = append(l, g)
	}
	return l
}

func invalidGauges() []api.Gauge {
	l := []api.Gauge{{}}
	for _, x := range badStretches() {
		g := middle()
		g.From, g.To = x[0], x[1]
		l = append(l, g)
	}
	for which := range 4 {
		for _, s := range invalidSpans() {
			l = append(l, withSpan(middle(), which, s))
		}
	}
	return l
}

// badStretches are not 0 <= a < b <= MaxStep.
func badStretches() [][2]int {
	return [][2]int{
		{0, 0}, {1, 1}, {2, 1}, {-1, 1}, {-1, 0}, {-1, -1}, {-2, -1}, {0, -1}, {0, api.MaxStep + 1}, {api.MaxStep, api.MaxStep}, {api.MaxStep, api.MaxStep + 1}, {api.MaxStep + 1, api.MaxStep + 2},
		{math.MinInt, math.MaxInt}, {math.MaxInt, math.MinInt}, {math.MinInt, 1}, {0, math.MaxInt}, {1, math.MinInt}, {math.MaxInt, 1}, {math.MaxInt, math.MaxInt}, {math.MinInt, math.MinInt}, {math.MinInt, -1}, {math.MaxInt - 1, math.MaxInt},
	}
}

// invalidLists returns lists of gauges that are not valid, by their number or by one of them.
func invalidLists() [][]api.Gauge {
	l := [][]api.Gauge{nil, {}, slices.Repeat([]api.Gauge{middle()}, api.MaxGauges+1), slices.Repeat([]api.Gauge{middle()}, 1000)}
	for _, g := range invalidGauges() {
		l = append(l, []api.Gauge{g}, []api.Gauge{middle(), middle(), g}, []api.Gauge{g, middle()})
	}
	return l
}

// done returns a function that passes the result of a call on which must succeed.
func done[T any](t *testing.T) func(T, api.Errno) T {
	return func(x T, e api.Errno) T {
		t.Helper()
		if e != api.OK {
			t.Fatalf("error %d", e)
		}
		return x
	}
}
