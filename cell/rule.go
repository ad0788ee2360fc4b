package cell

import (
	"iter"

	"slipstream/api"
)

// ValidRule reports whether a rule is one of the three kinds, with a By that its kind allows.
func ValidRule(r api.Rule) bool {
	switch r.Kind {
	case api.RNone, api.RTurn:
		return r.By == 0
	case api.RShift:
		return -api.MaxMass <= r.By && r.By <= api.MaxMass
	}
	return false
}

// ValidRules reports whether there are 1 to api.MaxRules rules, all valid.
func ValidRules(l []api.Rule) bool {
	if len(l) < 1 || len(l) > api.MaxRules {
		return false
	}
	for r := range run(l, 0, len(l)) {
		if !ValidRule(r) {
			return false
		}
	}
	return true
}

// Inverse returns the rule that undoes a rule.
func Inverse(r api.Rule) (api.Rule, api.Errno) {
	if !ValidRule(r) {
		return api.Rule{}, api.ErrInvalid
	}
	// By is 0 but for shifts, so that the other kinds stay as they are.
	return api.Rule{Kind: r.Kind, By: -r.By}, api.OK
}

// At returns the rule of a step, from 0 to api.MaxStep.
func At(l []api.Rule, step int) (api.Rule, api.Errno) {
	if !ValidRules(l) {
		return api.Rule{}, api.ErrInvalid
	}
	if step < 0 || step > api.MaxStep {
		return api.Rule{}, api.ErrRange
	}
	var at api.Rule
	for r := range run(l, step, 1) {
		at = r
	}
	return at, api.OK
}

// run yields the rules of n steps from the step first on. A run of len(l) steps has each rule once.
func run(l []api.Rule, first, n int) iter.Seq[api.Rule] {
	return func(yield func(api.Rule) bool) {
		for i := range n {
			if !yield(l[(first+i)%len(l)]) {
				return
			}
		}
	}
}

// deeds returns what each kind of rule makes of h, where there are all pairs together.
func deeds() [3]func(h, all, by int) int {
	return [3]func(h, all, by int) int{
		api.RNone:  func(h, all, by int) int { return h },
		api.RTurn:  func(h, all, by int) int { return all - h },
		api.RShift: func(h, all, by int) int { return modulo(h+by, all+1) },
	}
}

// modulo returns n modulo m, from 0 on also for n below 0.
func modulo(n, m int) int {
	rest := n % m
	if rest < 0 {
		rest += m
	}
	return rest
}

// divisor returns the greatest common divisor of a, above 0, and b, 0 or more.
func divisor(a, b int) int {
	for b > 0 {
		a, b = b, a%b
	}
	return a
}
