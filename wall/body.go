package wall

import (
	"iter"
	"maps"
	"slices"

	"slipstream/api"
)

// Bodies returns the numbers of the bodies that have cells, ascending.
func Bodies(g api.Grid, w api.Wall) ([]int, api.Errno) {
	if !Valid(g, w) {
		return nil, api.ErrInvalid
	}
	return slices.Sorted(maps.Keys(counts(w))), api.OK
}

// Cells returns the indexes of a body's cells, ascending.
func Cells(g api.Grid, w api.Wall, body int) ([]int, api.Errno) {
	if e := checkBody(g, w, body); e != api.OK {
		return nil, e
	}
	return slices.Collect(cellsOf(w, body)), api.OK
}

// Removed returns the wall without a body's cells.
func Removed(g api.Grid, w api.Wall, body int) (api.Wall, api.Errno) {
	if e := checkBody(g, w, body); e != api.OK {
		return api.Wall{}, e
	}
	if !has(w, body) {
		return api.Wall{}, api.ErrNone
	}
	left := copied(w)
	for i := range cellsOf(w, body) {
		left.Kind[i], left.Body[i] = api.WOpen, 0
	}
	return left, api.OK
}

// counts returns how many cells each body has; there is no entry for a body without cells.
func counts(w api.Wall) map[int]int {
	cells := map[int]int{}
	for _, body := range w.Body {
		if body != 0 {
			cells[body]++
		}
	}
	return cells
}

func has(w api.Wall, body int) bool {
	return counts(w)[body] > 0
}

// cellsOf yields the indexes of a body's cells, ascending.
func cellsOf(w api.Wall, body int) iter.Seq[int] {
	return func(yield func(int) bool) {
		for i, b := range w.Body {
			if b == body && !yield(i) {
				return
			}
		}
	}
}

func checkBody(g api.Grid, w api.Wall, body int) api.Errno {
	if !Valid(g, w) {
		return api.ErrInvalid
	}
	if !isBody(body) {
		return api.ErrRange
	}
	return api.OK
}
