package field

import (
	"iter"

	"slipstream/api"
	"slipstream/grid"
)

// block is a rectangle of cells of a valid grid, from the lower left corner a to the upper right corner b.
type block struct {
	api.Grid
	a, b api.Point
}

func newBlock(g api.Grid, a, b api.Point) (block, api.Errno) {
	if !grid.Valid(g) {
		return block{}, api.ErrInvalid
	}
	if !isOn(g, a) || !isOn(g, b) || a.X > b.X || a.Y > b.Y {
		return block{}, api.ErrRange
	}
	return block{g, a, b}, api.OK
}

// size returns the number of a block's cells.
func (k block) size() int {
	return (k.b.X - k.a.X + 1) * (k.b.Y - k.a.Y + 1)
}

// cells yields the cells of a block in the order of their indexes.
func (k block) cells() iter.Seq[api.Cell] {
	return func(yield func(api.Cell) bool) {
		for y := k.a.Y; y <= k.b.Y; y++ {
			for x := k.a.X; x <= k.b.X; x++ {
				if !yield(k.Grid.Cells[x+k.Wide*y]) {
					return
				}
			}
		}
	}
}

// sum adds up what a function tells of the cells of a block.
func (k block) sum(tell func(api.Cell) int) int {
	total := 0
	for c := range k.cells() {
		total += tell(c)
	}
	return total
}

// sums returns for each block the sum of what a function tells of its cells.
func sums(l []block, tell func(api.Cell) int) []int {
	var totals []int
	for _, k := range l {
		totals = append(totals, k.sum(tell))
	}
	return totals
}

// blocks yields all blocks of a grid with two sides, in the order of their lower left corners' indexes.
func blocks(g api.Grid, wide, high int) iter.Seq[block] {
	return func(yield func(block) bool) {
		for y := range g.High - high + 1 {
			for x := range g.Wide - wide + 1 {
				b := api.Point{X: x + wide - 1, Y: y + high - 1}
				if !yield(block{g, api.Point{X: x, Y: y}, b}) {
					return
				}
			}
		}
	}
}

// greatest returns the item of which a function tells the greatest number, of several the first one.
func greatest[T any](items iter.Seq[T], tell func(T) int) T {
	var best T
	most, known := 0, false
	for item := range items {
		if n := tell(item); !known || n > most {
			best, most, known = item, n, true
		}
	}
	return best
}

func massOf(c api.Cell) int {
	return c[api.East] + c[api.North] + c[api.West] + c[api.South]
}

func eastOf(c api.Cell) int { return c[api.East] - c[api.West] }

func northOf(c api.Cell) int { return c[api.North] - c[api.South] }

func isOn(g api.Grid, p api.Point) bool {
	return 0 <= p.X && p.X < g.Wide && 0 <= p.Y && p.Y < g.High
}

func point(g api.Grid, i int) api.Point {
	return api.Point{X: i % g.Wide, Y: i / g.Wide}
}
