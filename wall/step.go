package wall

import (
	"slipstream/api"
	"slipstream/cell"
)

// Step returns the grid after the step t among walls.
func Step(g api.Grid, w api.Wall, l []api.Rule, t int) (api.Grid, api.Errno) {
	return Run(g, w, l, t, 1)
}

// Back returns the grid that becomes g by the step t among walls.
func Back(g api.Grid, w api.Wall, l []api.Rule, t int) (api.Grid, api.Errno) {
	return Undo(g, w, l, t, 1)
}

// Run returns the grid after n steps among walls, from the number t on.
func Run(g api.Grid, w api.Wall, l []api.Rule, t, n int) (api.Grid, api.Errno) {
	if e := checkRun(g, w, l, t, n); e != api.OK {
		return api.Grid{}, e
	}
	u := newTunnel(g, w, l)
	for i := range n {
		u.step(t + i)
	}
	return u.Grid, api.OK
}

// Undo returns the grid that becomes g by n steps among walls, from the number t on.
func Undo(g api.Grid, w api.Wall, l []api.Rule, t, n int) (api.Grid, api.Errno) {
	if e := checkRun(g, w, l, t, n); e != api.OK {
		return api.Grid{}, e
	}
	u := newTunnel(g, w, l)
	for i := range n {
		u.back(t + n - 1 - i)
	}
	return u.Grid, api.OK
}

// Impulse returns the impulse of the next step on a body.
func Impulse(g api.Grid, w api.Wall, body int) (api.Push, api.Errno) {
	if e := checkBody(g, w, body); e != api.OK {
		return api.Push{}, e
	}
	if !has(w, body) {
		return api.Push{}, api.ErrNone
	}
	return newTunnel(g, w, nil).impulse(body), api.OK
}

// Drag returns the sum of a body's impulses in n steps, from the number t on.
func Drag(g api.Grid, w api.Wall, l []api.Rule, t, n, body int) (api.Push, api.Errno) {
	if e := checkRun(g, w, l, t, n); e != api.OK {
		return api.Push{}, e
	}
	if !isBody(body) {
		return api.Push{}, api.ErrRange
	}
	if !has(w, body) {
		return api.Push{}, api.ErrNone
	}
	u := newTunnel(g, w, l)
	var sum api.Push
	for i := range n {
		p := u.impulse(body)
		sum.East += p.East
		sum.North += p.North
		u.step(t + i)
	}
	return sum, api.OK
}

func checkRun(g api.Grid, w api.Wall, l []api.Rule, t, n int) api.Errno {
	if !Valid(g, w) || !cell.ValidRules(l) {
		return api.ErrInvalid
	}
	if t < 0 || t > api.MaxStep || n < 0 || n > api.MaxSteps || t+n-1 > api.MaxStep {
		return api.ErrRange
	}
	return api.OK
}
