package phase

import (
	"slices"

	"slipstream/api"
	"slipstream/cell"
)

// The kinds of cells.
const (
	ofNone = 0
	ofA    = 1
	ofB    = 2
)

// Kind returns 1 if the cell at a point is of A, 2 if it is of B, and 0 if it is of none.
func Kind(x api.Mix, p api.Point) (int, api.Errno) {
	if !Valid(x) {
		return 0, api.ErrInvalid
	}
	if p.X < 0 || p.X >= x.Wide || p.Y < 0 || p.Y >= x.High {
		return 0, api.ErrRange
	}
	return kindAt(x, p.X+x.Wide*p.Y), api.OK
}

// Interface returns the number of pairs of a cell and its east or north neighbour of which one is of A and the other one of B.
func Interface(x api.Mix) (int, api.Errno) {
	if !Valid(x) {
		return 0, api.ErrInvalid
	}
	l, pairs := kinds(x), 0
	for i, kind := range l {
		near := neighbours(x, i)
		for _, other := range [2]int{l[near[api.East]], l[near[api.North]]} {
			if kind != ofNone && other != ofNone && kind != other {
				pairs++
			}
		}
	}
	return pairs, api.OK
}

// Drops returns the numbers of cells of all drops of a kind, in descending order.
func Drops(x api.Mix, kind int) ([]int, api.Errno) {
	if !Valid(x) {
		return nil, api.ErrInvalid
	}
	if kind != ofA && kind != ofB {
		return nil, api.ErrRange
	}
	l := kinds(x)
	var meet func(i int) int
	meet = func(i int) int {
		if l[i] != kind {
			return 0
		}
		// A cell that has been met is of none, so that it is not met again.
		l[i] = ofNone
		size := 1
		for _, j := range neighbours(x, i) {
			size += meet(j)
		}
		return size
	}
	var sizes []int
	for i := range l {
		if size := meet(i); size > 0 {
			sizes = append(sizes, size)
		}
	}
	slices.Sort(sizes)
	slices.Reverse(sizes)
	return sizes, api.OK
}

// kinds returns the kind of each cell of a valid mix.
func kinds(x api.Mix) []int {
	l := make([]int, len(x.A))
	for i := range l {
		l[i] = kindAt(x, i)
	}
	return l
}

func kindAt(x api.Mix, i int) int {
	a, _ := cell.Mass(x.A[i])
	b, _ := cell.Mass(x.B[i])
	switch {
	case a > b:
		return ofA
	case a < b:
		return ofB
	}
	return ofNone
}

// neighbours returns the indexes of the four neighbours of a cell, round the sides.
func neighbours(x api.Mix, i int) [4]int {
	row, column := i/x.Wide, i%x.Wide
	at := func(column, row int) int { return column%x.Wide + x.Wide*(row%x.High) }
	return [4]int{
		api.East:  at(column+1, row),
		api.North: at(column, row+1),
		api.West:  at(column+x.Wide-1, row),
		api.South: at(column, row+x.High-1),
	}
}
