package field_test

import (
	"math"
	"math/big"
	"slices"
	"testing"

	"slipstream/api"
	"slipstream/grid"
)

func at(x, y int) api.Point { return api.Point{X: x, Y: y} }

// thrown returns numbers from 0 to most-1 that look as if they were thrown; seed tells which.
func thrown(seed uint64) func(most int) int {
	return func(most int) int {
		seed = seed*6364136223846793005 + 1442695040888963407
		return int(seed>>33) % most
	}
}

func empty(wide, high int) api.Grid {
	return api.Grid{Wide: wide, High: high, Cells: make([]api.Cell, wide*high)}
}

// filled returns a grid of which about one cell in `one` has particles, fewer than `most` in each direction.
func filled(wide, high, one, most int, seed uint64) api.Grid {
	next := thrown(seed)
	g := empty(wide, high)
	for i := range g.Cells {
		if next(one) > 0 {
			continue
		}
		for dir := range 4 {
			g.Cells[i][dir] = next(most)
		}
	}
	return g
}

// read reads a grid from its text.
func read(t *testing.T, text string) api.Grid {
	t.Helper()
	g, line, e := grid.Parse(text)
	if e != api.OK {
		t.Fatalf("error %d in the line %d", e, line)
	}
	return g
}

// drawn returns a grid from a picture of it, the highest row first; each cell that is not empty has one particle.
func drawn(rows ...string) api.Grid {
	g := empty(len(rows[0]), len(rows))
	for i := range g.Cells {
		switch rows[g.High-1-i/g.Wide][i%g.Wide] {
		case '>':
			g.Cells[i][api.East] = 1
		case '^':
			g.Cells[i][api.North] = 1
		case '<':
			g.Cells[i][api.West] = 1
		case 'v':
			g.Cells[i][api.South] = 1
		}
	}
	return g
}

func sides() [][2]int {
	return [][2]int{{1, 1}, {1, 2}, {2, 1}, {2, 2}, {1, 5}, {5, 1}, {3, 2}, {2, 3}, {4, 3}, {4, 4}, {5, 5}, {6, 4}, {3, 8}, {64, 1}, {1, 64}, {16, 64}, {32, 32}}
}

// grids returns grids of all kinds of sides: without particles, with few, with many, and with as many as can be.
func grids() []api.Grid {
	var l []api.Grid
	for i, s := range sides() {
		full := empty(s[0], s[1])
		full.Cells[0] = api.Cell{250000001, 249999999, 250000000, 249999999}
		full.Cells[len(full.Cells)-1][i%4]++
		l = append(l, empty(s[0], s[1]), full, filled(s[0], s[1], 1, 2, uint64(i)), filled(s[0], s[1], 3, 3, uint64(i)+50), filled(s[0], s[1], 1, 200000, uint64(i)+100))
	}
	return l
}

// smallGrids returns many grids of small sides, with so few particles that much of them is alike.
func smallGrids() []api.Grid {
	var l []api.Grid
	next := thrown(77)
	for i := range 1500 {
		l = append(l, filled(1+next(6), 1+next(5), 1+next(3), 2+next(3), uint64(i)))
	}
	return l
}

func invalidGrids() []api.Grid {
	return []api.Grid{
		{}, {Wide: 1, High: 1}, {Wide: -2, High: -2, Cells: make([]api.Cell, 4)}, {Wide: 3, High: 2, Cells: make([]api.Cell, 5)}, {Wide: 3, High: 2, Cells: make([]api.Cell, 7)},
		empty(65, 1), empty(1, 65), empty(64, 17), {Wide: math.MaxInt, High: math.MaxInt, Cells: make([]api.Cell, 1)}, {Wide: 1 << 62, High: 4}, {Wide: math.MinInt, High: 2},
		{Wide: 2, High: 1, Cells: []api.Cell{{}, {0, 0, -1}}}, {Wide: 2, High: 1, Cells: []api.Cell{{api.MaxMass}, {0, 1}}}, {Wide: 1, High: 1, Cells: []api.Cell{{math.MaxInt, math.MaxInt, 2}}},
	}
}

// badPoints are not on a grid.
func badPoints(g api.Grid) []api.Point {
	return []api.Point{
		at(-1, 0), at(0, -1), at(g.Wide, 0), at(0, g.High), at(g.Wide, -1), at(-1, 1), at(g.Wide*g.High, 0), at(0, g.Wide*g.High),
		at(math.MinInt, 0), at(0, math.MinInt), at(math.MaxInt, 0), at(0, math.MaxInt), at(math.MaxInt, math.MinInt),
	}
}

// badNumbers are neither axes nor sides of a grid of less than 64 by 64.
func badNumbers() []int {
	return []int{-1, -2, 64, 65, 1025, api.MaxMass, math.MaxInt, math.MinInt}
}

// corners are the lower left and the upper right corner of a block.
type corners struct{ a, b api.Point }

func (k corners) has(p api.Point) bool {
	return k.a.X <= p.X && p.X <= k.b.X && k.a.Y <= p.Y && p.Y <= k.b.Y
}

func (k corners) size() int { return (k.b.X - k.a.X + 1) * (k.b.Y - k.a.Y + 1) }

func whole(g api.Grid) corners { return corners{at(0, 0), at(g.Wide-1, g.High-1)} }

// blocksOf returns all blocks of a grid; of a great grid only some.
func blocksOf(g api.Grid) []corners {
	var l []corners
	for _, y0 := range someBelow(g.High) {
		for _, y1 := range someBelow(g.High) {
			for _, x0 := range someBelow(g.Wide) {
				for _, x1 := range someBelow(g.Wide) {
					if x0 <= x1 && y0 <= y1 {
						l = append(l, corners{at(x0, y0), at(x1, y1)})
					}
				}
			}
		}
	}
	return l
}

func someBelow(n int) []int {
	var l []int
	for i := range n {
		if n <= 8 || i < 2 || i == n/2 || i > n-3 {
			l = append(l, i)
		}
	}
	return l
}

// What a particle of each direction is worth.
var (
	mass  = [4]int{1, 1, 1, 1}
	east  = [4]int{api.East: 1, api.West: -1}
	north = [4]int{api.North: 1, api.South: -1}
)

// pointOf returns the place of the cell with an index.
func pointOf(g api.Grid, i int) api.Point { return at(i%g.Wide, i/g.Wide) }

func indexOf(g api.Grid, p api.Point) int { return p.X + g.Wide*p.Y }

// worthOf adds up what the particles of a block are worth.
func worthOf(g api.Grid, k corners, worth [4]int) int {
	total := 0
	for i, c := range g.Cells {
		if k.has(pointOf(g, i)) {
			total += worth[0]*c[0] + worth[1]*c[1] + worth[2]*c[2] + worth[3]*c[3]
		}
	}
	return total
}

func divided(n, d int) api.Ratio {
	return ratioOf(big.NewRat(int64(n), int64(d)))
}

func ratioOf(r *big.Rat) api.Ratio {
	return api.Ratio{N: int(r.Num().Int64()), D: int(r.Denom().Int64())}
}

// done returns a function that passes the result of a call on which must succeed.
func done[T any](t *testing.T) func(T, api.Errno) T {
	return func(x T, e api.Errno) T {
		t.Helper()
		if e != api.OK {
			t.Fatalf("error %d", e)
		}
		return x
	}
}

// sameLists compares lists of lists.
func sameLists(a, b [][]int) bool {
	return slices.EqualFunc(a, b, slices.Equal[[]int])
}
