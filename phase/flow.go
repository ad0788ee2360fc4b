package phase

import (
	"iter"

	"slipstream/api"
	"slipstream/cell"
	"slipstream/grid"
)

// flow is a valid mix that goes steps by valid rules, in place.
// A valid mix stays valid in all of them, so that what the flow calls does not fail.
type flow struct {
	api.Mix
	collisions, exchanges []api.Rule
}

// deeds is what a step does, or undoes, one after the other; each one is told the number of the step.
type deeds [4]func(t int)

// newFlow returns a flow with cells of its own; the rules are only read.
func newFlow(x api.Mix, l, m []api.Rule) *flow {
	return &flow{Mix: copied(x), collisions: l, exchanges: m}
}

// forth returns what makes a step.
func (f *flow) forth() deeds {
	return deeds{
		func(t int) { f.collide(cell.Collide, t) },
		func(t int) { f.exchange(Exchange, eastWest, t) },
		func(t int) { f.exchange(Exchange, northSouth, t) },
		func(t int) { f.stream(grid.Stream) },
	}
}

// back returns what undoes a step.
func (f *flow) back() deeds {
	return deeds{
		func(t int) { f.stream(grid.Unstream) },
		func(t int) { f.exchange(Unexchange, northSouth, t) },
		func(t int) { f.exchange(Unexchange, eastWest, t) },
		func(t int) { f.collide(cell.Undo, t) },
	}
}

// collide does to the cells of both phases what a function of package cell makes of them by the rule of t.
func (f *flow) collide(deed func(api.Cell, api.Rule) (api.Cell, api.Errno), t int) {
	r, _ := cell.At(f.collisions, t)
	for i := range f.A {
		f.A[i], _ = deed(f.A[i], r)
		f.B[i], _ = deed(f.B[i], r)
	}
}

// exchange lets both phases change places along a line in every cell by the rule of t, or undoes it.
func (f *flow) exchange(deed func(a, b api.Cell, r api.Rule, line int) (api.Cell, api.Cell, api.Errno), line, t int) {
	r, _ := cell.At(f.exchanges, t)
	for i := range f.A {
		f.A[i], f.B[i], _ = deed(f.A[i], f.B[i], r, line)
	}
}

// stream moves the particles of both phases as a function of package grid does.
func (f *flow) stream(deed func(api.Grid) (api.Grid, api.Errno)) {
	a, b := phases(f.Mix)
	a, _ = deed(a)
	b, _ = deed(b)
	f.A, f.B = a.Cells, b.Cells
}

// do does all deeds at each number of a step.
func do(all deeds, steps iter.Seq[int]) {
	for t := range steps {
		for _, deed := range all {
			deed(t)
		}
	}
}

// stepNumbers yields n numbers of steps, from first on, each one by more than the one before.
func stepNumbers(first, by, n int) iter.Seq[int] {
	return func(yield func(int) bool) {
		for i := range n {
			if !yield(first + by*i) {
				return
			}
		}
	}
}
