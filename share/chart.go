package share

import (
	"slipstream/api"
	"slipstream/grid"
	"slipstream/node"
)

// Loads returns the masses of a grid's columns.
func Loads(g api.Grid) ([]int, api.Errno) {
	if !grid.Valid(g) {
		return nil, api.ErrInvalid
	}
	loads := make([]int, g.Wide)
	for i, c := range g.Cells {
		for _, n := range c {
			loads[i%g.Wide] += n
		}
	}
	return loads, api.OK
}

// Map returns the map of package node that gives each cell the node of its column.
func Map(g api.Grid, cuts []int) ([]int, api.Errno) {
	if e := checkGrid(g, cuts); e != api.OK {
		return nil, e
	}
	if len(cuts)+1 > api.MaxNodes {
		return nil, api.ErrLimit
	}
	owner := make([]int, len(g.Cells))
	for i := range owner {
		owner[i] = nodeOf(cuts, i%g.Wide)
	}
	return owner, api.OK
}

// Cost returns the peak of a grid's loads, and for each note that is due in a step so much more.
func Cost(g api.Grid, cuts []int, note int) (int, api.Errno) {
	if e := checkGrid(g, cuts); e != api.OK {
		return 0, e
	}
	if note < 0 || note > api.MaxMass {
		return 0, api.ErrRange
	}
	owner, e := Map(g, cuts)
	if e != api.OK {
		return 0, e
	}
	// A grid with a map has loads, a peak and traffic.
	loads, _ := Loads(g)
	peak, _ := Peak(loads, cuts)
	traffic, _ := node.Traffic(g, owner)
	return peak + note*traffic, api.OK
}

func checkGrid(g api.Grid, cuts []int) api.Errno {
	if !grid.Valid(g) {
		return api.ErrInvalid
	}
	if !isShare(cuts, g.Wide) {
		return api.ErrRange
	}
	return api.OK
}
