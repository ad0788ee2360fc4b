package grid

import (
	"slices"

	"slipstream/api"
	"slipstream/cell"
)

// Stream returns the grid after all particles have moved one place.
func Stream(g api.Grid) (api.Grid, api.Errno) {
	return streamed(g, onward)
}

// Unstream returns the grid that becomes g when all particles move one place.
func Unstream(g api.Grid) (api.Grid, api.Errno) {
	return streamed(g, backward)
}

// Step returns the grid after the step t.
func Step(g api.Grid, l []api.Rule, t int) (api.Grid, api.Errno) {
	return Run(g, l, t, 1)
}

// Back returns the grid that becomes g by the step t.
func Back(g api.Grid, l []api.Rule, t int) (api.Grid, api.Errno) {
	return Undo(g, l, t, 1)
}

// Run returns the grid after n steps, from the number t on.
func Run(g api.Grid, l []api.Rule, t, n int) (api.Grid, api.Errno) {
	if e := checkRun(g, l, t, n); e != api.OK {
		return api.Grid{}, e
	}
	m := newMachine(g, l)
	do(m.step, stepNumbers(t, 1, n))
	return m.Grid, api.OK
}

// Undo returns the grid that becomes g by n steps, from the number t on.
func Undo(g api.Grid, l []api.Rule, t, n int) (api.Grid, api.Errno) {
	if e := checkRun(g, l, t, n); e != api.OK {
		return api.Grid{}, e
	}
	m := newMachine(g, l)
	do(m.back, stepNumbers(t+n-1, -1, n))
	return m.Grid, api.OK
}

// Period returns the least number of steps by one rule, 1 to most, after which the grid is as it was.
func Period(g api.Grid, r api.Rule, most int) (int, api.Errno) {
	if !Valid(g) || !cell.ValidRule(r) {
		return 0, api.ErrInvalid
	}
	if most < 1 || most > api.MaxSteps {
		return 0, api.ErrRange
	}
	m := newMachine(g, []api.Rule{r})
	for t := range stepNumbers(0, 1, most) {
		m.step(t)
		if slices.Equal(m.Cells, g.Cells) {
			return t + 1, api.OK
		}
	}
	return 0, api.ErrNone
}

func streamed(g api.Grid, way int) (api.Grid, api.Errno) {
	if !Valid(g) {
		return api.Grid{}, api.ErrInvalid
	}
	m := newMachine(g, nil)
	m.stream(way)
	return m.Grid, api.OK
}

func checkRun(g api.Grid, l []api.Rule, t, n int) api.Errno {
	if !Valid(g) || !cell.ValidRules(l) {
		return api.ErrInvalid
	}
	if t < 0 || t > api.MaxStep || n < 0 || n > api.MaxSteps {
		return api.ErrRange
	}
	if n > 0 && t+n-1 > api.MaxStep {
		return api.ErrRange
	}
	return api.OK
}
