package share_test

import (
	"math"
	"slices"
	"testing"

	"slipstream/api"
)

const (
	most = api.MaxMass
	all  = api.MaxSide * api.MaxMass
)

// thrown returns numbers from 0 to most-1 that look as if they were thrown; seed tells which.
func thrown(seed uint64) func(most int) int {
	return func(most int) int {
		seed = seed*6364136223846793005 + 1442695040888963407
		return int(seed>>33) % most
	}
}

// chapter are the loads of the chapter's examples.
func chapter() []int { return []int{3, 1, 4, 1, 5} }

// thrownLoads returns loads below a number.
func thrownLoads(columns, below int, next func(int) int) []int {
	loads := make([]int, columns)
	for i := range loads {
		loads[i] = next(below)
	}
	return loads
}

// smallLoads returns many lists of so few columns that all their shares can be looked at; many of their loads are alike, or 0.
func smallLoads() [][]int {
	l := [][]int{chapter(), {0}, {1}, {7}, {0, 0}, {0, 0, 0, 0, 0}, {most}, {most, most, most}, {0, most, 0}, {1, 1, 1, 1, 1, 1}, {0, 0, 5, 0, 0}, {5, 0, 0, 0, 5}}
	next := thrown(9)
	for range 150 {
		l = append(l, thrownLoads(1+next(7), 1+next(1+next(9)), next))
	}
	return l
}

// greatLoads returns lists of many columns.
func greatLoads() [][]int {
	next := thrown(3)
	full := slices.Repeat([]int{most}, api.MaxSide)
	one := make([]int, api.MaxSide)
	one[40] = most
	l := [][]int{full, make([]int, api.MaxSide), one, full[:63], slices.Repeat([]int{1}, 64)}
	for _, below := range []int{2, 3, 10, 1000, most + 1} {
		for range 6 {
			l = append(l, thrownLoads(20+next(45), below, next))
		}
	}
	return l
}

func badLoads() [][]int {
	return [][]int{
		nil, {}, make([]int, 65), make([]int, 1000), {-1}, {0, -1}, {-1, 0}, {3, -1, 3}, {most + 1}, {0, most + 1}, {most + 1, 0}, {1, most + 1, 1},
		{math.MinInt}, {math.MaxInt}, {math.MaxInt, 1}, append(make([]int, 63), -1), append(make([]int, 63), most+1),
	}
}

// badCuts are no share of five columns among any number of nodes.
func badCuts() [][]int {
	return [][]int{
		{-1}, {6}, {-1, 3}, {3, 6}, {3, 2}, {2, 3, 2}, {5, 0}, {1, 0, 5}, {0, 5, 4}, {math.MinInt}, {math.MaxInt}, {0, math.MaxInt}, {math.MinInt, 5},
		make([]int, 16), make([]int, 63), {0, 0, 0, 0, 0, 0, 0, 0, 0, 0, 0, 0, 0, 0, 0, 5},
	}
}

// badNodes are no numbers of nodes.
func badNodes() []int {
	return []int{0, -1, 17, 18, 64, math.MaxInt, math.MinInt}
}

// sharesOf returns all lists of cuts for so many columns and nodes, the first one first.
func sharesOf(columns, k int) [][]int {
	var l [][]int
	var longer func(cuts []int, from int)
	longer = func(cuts []int, from int) {
		if len(cuts) == k-1 {
			l = append(l, slices.Clone(cuts))
			return
		}
		for cut := from; cut <= columns; cut++ {
			longer(append(cuts, cut), cut)
		}
	}
	longer(nil, 0)
	return l
}

// thrownShare returns some share of so many columns among k nodes.
func thrownShare(columns, k int, next func(int) int) []int {
	cuts := thrownLoads(k-1, columns+1, next)
	slices.Sort(cuts)
	return cuts
}

// holder returns the node that has a column.
func holder(cuts []int, column int) int {
	node := 0
	for _, cut := range cuts {
		if cut <= column {
			node++
		}
	}
	return node
}

// weighed returns the weights of the nodes of a share.
func weighed(loads, cuts []int) []int {
	w := make([]int, len(cuts)+1)
	for column, load := range loads {
		w[holder(cuts, column)] += load
	}
	return w
}

func total(l []int) int {
	sum := 0
	for _, n := range l {
		sum += n
	}
	return sum
}

// leastPeak returns the least peak of all shares among k nodes: it is found for all beginnings of the columns among one node, then two, and so on.
func leastPeak(loads []int, k int) int {
	peaks := make([]int, len(loads)+1)
	for end := range peaks {
		peaks[end] = total(loads[:end])
	}
	for range k - 1 {
		more := slices.Clone(peaks)
		for end := range more {
			for cut := range end {
				more[end] = min(more[end], max(peaks[cut], total(loads[cut:end])))
			}
		}
		peaks = more
	}
	return peaks[len(loads)]
}

// done returns a function that passes the result of a call on which must succeed.
func done[T any](t *testing.T) func(T, api.Errno) T {
	return func(x T, e api.Errno) T {
		t.Helper()
		if e != api.OK {
			t.Fatalf("error %d", e)
		}
		return x
	}
}

// filled returns a grid of which about half of the cells have particles, fewer than below in each direction.
func filled(wide, high, below int, next func(int) int) api.Grid {
	g := api.Grid{Wide: wide, High: high, Cells: make([]api.Cell, wide*high)}
	for i := range g.Cells {
		if next(2) > 0 {
			continue
		}
		for dir := range 4 {
			g.Cells[i][dir] = next(below)
		}
	}
	return g
}

func grids() []api.Grid {
	next := thrown(31)
	full := filled(4, 3, 1, next)
	full.Cells[5] = api.Cell{250000001, 249999999, 250000000, 249999999}
	full.Cells[11] = api.Cell{0, 0, 0, 1}
	l := []api.Grid{full}
	for _, s := range [][2]int{{1, 1}, {1, 6}, {6, 1}, {2, 2}, {3, 2}, {2, 5}, {5, 3}, {9, 4}, {64, 1}, {1, 64}, {64, 16}, {32, 32}} {
		l = append(l, filled(s[0], s[1], 5, next), filled(s[0], s[1], 1, next))
	}
	return l
}

func invalidGrids() []api.Grid {
	empty := func(wide, high int) api.Grid {
		return api.Grid{Wide: wide, High: high, Cells: make([]api.Cell, wide*high)}
	}
	return []api.Grid{
		{}, {Wide: 1, High: 1}, {Wide: 3, High: 2, Cells: make([]api.Cell, 5)}, {Wide: 3, High: 2, Cells: make([]api.Cell, 7)}, {Wide: -2, High: -2, Cells: make([]api.Cell, 4)}, {Wide: 0, High: 5},
		empty(65, 1), empty(1, 65), empty(64, 17), {Wide: math.MaxInt, High: math.MaxInt, Cells: make([]api.Cell, 1)}, {Wide: 1 << 62, High: 4},
		{Wide: 2, High: 1, Cells: []api.Cell{{}, {0, 0, -1}}}, {Wide: 2, High: 1, Cells: []api.Cell{{most}, {0, 1}}}, {Wide: 1, High: 1, Cells: []api.Cell{{math.MaxInt, math.MaxInt, 2}}},
	}
}
