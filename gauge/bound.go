package gauge

import (
	"slices"

	"slipstream/api"
)

// Least returns the greatest number that, by a chain, the drag from a to b is not below, and the first such chain.
func Least(l []api.Gauge, a, b int) (int, []int, api.Errno) {
	return chained[lowEnd](l, a, b)
}

// Most returns the least number that, by a chain, the drag from a to b is not above, and the first such chain.
func Most(l []api.Gauge, a, b int) (int, []int, api.Errno) {
	return chained[highEnd](l, a, b)
}

// Bounds returns the span in which all chains together tell the drag from a to b to be.
func Bounds(l []api.Gauge, a, b int) (api.Span, api.Errno) {
	lo, _, e := Least(l, a, b)
	if e != api.OK {
		return api.Span{}, e
	}
	hi, _, _ := Most(l, a, b)
	if lo > hi {
		return api.Span{}, api.ErrState
	}
	return api.Span{Lo: lo, Hi: hi}, api.OK
}

// Proof returns two chains that contradict each other.
func Proof(l []api.Gauge, a, b int) ([]int, []int, api.Errno) {
	switch _, e := Bounds(l, a, b); e {
	case api.OK:
		return nil, nil, api.ErrState
	case api.ErrState:
		_, low, _ := Least(l, a, b)
		_, high, _ := Most(l, a, b)
		return low, high, api.OK
	default:
		return nil, nil, e
	}
}

// Proves reports whether two chains from a to b contradict each other: no number is at least the Lo of the first one and at most the Hi of the second one.
func Proves(l []api.Gauge, a, b int, low, high []int) bool {
	if !Valid(l) || !isStretch(a, b) {
		return false
	}
	above, ok := chainSpan(l, a, b, low)
	below, too := chainSpan(l, a, b, high)
	return ok && too && above.Lo > below.Hi
}

// Wrong returns the first stretch at which gauges contradict each other.
func Wrong(l []api.Gauge) (a, b int, e api.Errno) {
	if !Valid(l) {
		return 0, 0, api.ErrInvalid
	}
	var firsts, lasts []int
	for _, g := range l {
		firsts, lasts = append(firsts, g.From), append(lasts, g.To)
	}
	slices.Sort(firsts)
	slices.Sort(lasts)
	for _, a := range firsts {
		for _, b := range lasts {
			if _, e := Bounds(l, a, b); e == api.ErrState {
				return a, b, api.OK
			}
		}
	}
	return 0, 0, api.ErrNone
}

// Mean returns the bounds divided by the number of steps.
func Mean(l []api.Gauge, a, b int) (lo, hi api.Ratio, e api.Errno) {
	s, e := Bounds(l, a, b)
	if e != api.OK {
		return api.Ratio{}, api.Ratio{}, e
	}
	return ratio(s.Lo, b-a), ratio(s.Hi, b-a), api.OK
}

// ratio returns n divided by d, which is above 0, in lowest terms.
func ratio(n, d int) api.Ratio {
	common, rest := d, n
	for rest != 0 {
		common, rest = rest, common%rest
	}
	if common < 0 {
		common = -common
	}
	return api.Ratio{N: n / common, D: d / common}
}
