package wall

import "slipstream/api"

// Mirrored returns the wall with east and west exchanged.
func Mirrored(g api.Grid, w api.Wall) (api.Wall, api.Errno) {
	if !Valid(g, w) {
		return api.Wall{}, api.ErrInvalid
	}
	flipped := [4]int{api.WOpen: api.WOpen, api.WBack: api.WBack, api.WSlash: api.WBlash, api.WBlash: api.WSlash}
	other := open(g)
	for i, kind := range w.Kind {
		to := index(g, api.Point{X: g.Wide - 1 - i%g.Wide, Y: i / g.Wide})
		other.Kind[to], other.Body[to] = flipped[kind], w.Body[i]
	}
	return other, api.OK
}

// Closed returns the indexes of the open cells to which particles can come from an open cell, ascending.
func Closed(g api.Grid, w api.Wall, p api.Point) ([]int, api.Errno) {
	if !Valid(g, w) {
		return nil, api.ErrInvalid
	}
	if !isOn(g, p) {
		return nil, api.ErrRange
	}
	first := index(g, p)
	if w.Kind[first] != api.WOpen {
		return nil, api.ErrWall
	}
	var l []int
	for i, ok := range reached(g, w, first) {
		if ok {
			l = append(l, i)
		}
	}
	return l, api.OK
}

// reached tells of each cell whether there is a way to it from an open cell through open neighbours.
func reached(g api.Grid, w api.Wall, first int) []bool {
	there := make([]bool, len(g.Cells))
	there[first] = true
	next := []int{first}
	for len(next) > 0 {
		last := len(next) - 1
		i := next[last]
		next = next[:last]
		for _, j := range neighbours(g, i) {
			if w.Kind[j] == api.WOpen && !there[j] {
				there[j] = true
				next = append(next, j)
			}
		}
	}
	return there
}

// neighbours returns the indexes of the four neighbours of a cell, round the sides.
func neighbours(g api.Grid, i int) [4]int {
	x, y := i%g.Wide, i/g.Wide
	return [4]int{
		api.East:  (x+1)%g.Wide + g.Wide*y,
		api.North: x + g.Wide*((y+1)%g.High),
		api.West:  (x+g.Wide-1)%g.Wide + g.Wide*y,
		api.South: x + g.Wide*((y+g.High-1)%g.High),
	}
}
