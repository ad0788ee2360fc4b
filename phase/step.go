package phase

import (
	"slipstream/api"
	"slipstream/cell"
)

// Step returns the mix after the step t, with the rules l of collisions and m of exchanges.
func Step(x api.Mix, l, m []api.Rule, t int) (api.Mix, api.Errno) {
	return Run(x, l, m, t, 1)
}

// Back returns the mix that becomes x by the step t.
func Back(x api.Mix, l, m []api.Rule, t int) (api.Mix, api.Errno) {
	return Undo(x, l, m, t, 1)
}

// Run returns the mix after n steps, from the number t on.
func Run(x api.Mix, l, m []api.Rule, t, n int) (api.Mix, api.Errno) {
	if e := checkRun(x, l, m, t, n); e != api.OK {
		return api.Mix{}, e
	}
	f := newFlow(x, l, m)
	do(f.forth(), stepNumbers(t, 1, n))
	return f.Mix, api.OK
}

// Undo returns the mix that becomes x by n steps, from the number t on.
func Undo(x api.Mix, l, m []api.Rule, t, n int) (api.Mix, api.Errno) {
	if e := checkRun(x, l, m, t, n); e != api.OK {
		return api.Mix{}, e
	}
	f := newFlow(x, l, m)
	do(f.back(), stepNumbers(t+n-1, -1, n))
	return f.Mix, api.OK
}

func checkRun(x api.Mix, l, m []api.Rule, t, n int) api.Errno {
	if !Valid(x) || !cell.ValidRules(l) || !cell.ValidRules(m) {
		return api.ErrInvalid
	}
	if t < 0 || t > api.MaxStep || n < 0 || n > api.MaxSteps || t+n-1 > api.MaxStep {
		return api.ErrRange
	}
	return api.OK
}
