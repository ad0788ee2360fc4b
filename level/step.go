package level

import (
	"slipstream/api"
	"slipstream/cell"
)

// lastStep is the number of the last step of which both fine steps have numbers that are steps.
const lastStep = (api.MaxStep - 1) / 2

// Step returns the patch after the step t.
func Step(p api.Patch, l []api.Rule, t int) (api.Patch, api.Errno) {
	return Run(p, l, t, 1)
}

// Run returns the patch after n steps, from the number t on.
func Run(p api.Patch, l []api.Rule, t, n int) (api.Patch, api.Errno) {
	if e := checkRun(p, l, t, n); e != api.OK {
		return api.Patch{}, e
	}
	m := newMachine(p, l)
	for i := range n {
		m.step(t + i)
	}
	return m.patch, api.OK
}

// Enter returns how many particles burst into the rectangle in the step t.
func Enter(p api.Patch, l []api.Rule, t int) (int, api.Errno) {
	entered, _, e := crossings(p, l, t)
	return entered, e
}

// Leave returns how many particles are gathered from the rectangle in the step t.
func Leave(p api.Patch, l []api.Rule, t int) (int, api.Errno) {
	_, left, e := crossings(p, l, t)
	return left, e
}

func crossings(p api.Patch, l []api.Rule, t int) (entered, left int, e api.Errno) {
	if e := checkRun(p, l, t, 1); e != api.OK {
		return 0, 0, e
	}
	entered, left = newMachine(p, l).step(t)
	return entered, left, api.OK
}

func checkRun(p api.Patch, l []api.Rule, t, n int) api.Errno {
	if !Valid(p) || !cell.ValidRules(l) {
		return api.ErrInvalid
	}
	// In this order the sum does not overflow.
	if t < 0 || t > lastStep || n < 0 || n > api.MaxSteps || t+n-1 > lastStep {
		return api.ErrRange
	}
	return api.OK
}
