package field

import (
	"slipstream/api"
	"slipstream/grid"
)

// mostFractions is how many fractions Weighted takes at most.
const mostFractions = 100

// across has for each axis the directions in which particles cross its lines, forth and back.
var across = [2][2]int{{api.East, api.West}, {api.North, api.South}}

// Crossing returns how many particles cross a line in the next streaming: east and west of axis 0, north and south of axis 1.
func Crossing(g api.Grid, axis, at int) (forth, back int, e api.Errno) {
	l, e := lines(g, axis)
	if e != api.OK {
		return 0, 0, e
	}
	if at < 0 || at >= len(l) {
		return 0, 0, api.ErrRange
	}
	before := l[(at+len(l)-1)%len(l)]
	forth = before.sum(func(c api.Cell) int { return c[across[axis][0]] })
	back = l[at].sum(func(c api.Cell) int { return c[across[axis][1]] })
	return forth, back, api.OK
}

// Parity returns the mass of the cells with an even x + y, and of the others.
func Parity(g api.Grid) (even, odd int, e api.Errno) {
	mass, e := grid.Mass(g)
	if e != api.OK {
		return 0, 0, e
	}
	for i, c := range g.Cells {
		p := point(g, i)
		if (p.X+p.Y)%2 == 0 {
			even += massOf(c)
		}
	}
	return even, mass - even, api.OK
}

// Rows returns the momentum east of each row.
func Rows(g api.Grid) ([]int, api.Errno) {
	l, e := lines(g, 1)
	if e != api.OK {
		return nil, e
	}
	return sums(l, eastOf), api.OK
}

// Spread returns the mean absolute difference of the cells' masses from their mean.
func Spread(g api.Grid) (api.Ratio, api.Errno) {
	mass, e := grid.Mass(g)
	if e != api.OK {
		return api.Ratio{}, e
	}
	// Differences from the mean are whole numbers if they are taken as many times as there are cells.
	n, total := len(g.Cells), 0
	for _, c := range g.Cells {
		total += magnitude(n*massOf(c) - mass)
	}
	return ratio(total, n*n), api.OK
}

// Weighted returns the mean of fractions, each weighted by its number of cells.
func Weighted(l []api.Ratio, cells []int) (api.Ratio, api.Errno) {
	if len(l) != len(cells) {
		return api.Ratio{}, api.ErrSize
	}
	if len(l) < 1 || len(l) > mostFractions {
		return api.Ratio{}, api.ErrRange
	}
	total, all := 0, 0
	for i, r := range l {
		if !isMean(r, cells[i]) {
			return api.Ratio{}, api.ErrRange
		}
		total += r.N * (cells[i] / r.D)
		all += cells[i]
	}
	return ratio(total, all), api.OK
}

// isMean reports whether a fraction may be the mean of whole numbers of so many cells.
func isMean(r api.Ratio, cells int) bool {
	if cells < 1 || cells > api.MaxCells || r.N < -api.MaxMass || r.N > api.MaxMass {
		return false
	}
	return r.D > 0 && cells%r.D == 0
}

// ratio returns n divided by d, which is above 0, in lowest terms.
func ratio(n, d int) api.Ratio {
	common, rest := d, magnitude(n)
	for rest != 0 {
		common, rest = rest, common%rest
	}
	return api.Ratio{N: n / common, D: d / common}
}
