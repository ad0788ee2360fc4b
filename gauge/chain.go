package gauge

import (
	"iter"
	"slices"

	"slipstream/api"
)

// end is one of the two ends of spans. Of two bounds at this end it tells whether the first one is the tighter one.
type end interface {
	of(s api.Span) int
	tighter(a, b int) bool
}

type (
	lowEnd  struct{}
	highEnd struct{}
)

func (lowEnd) of(s api.Span) int { return s.Lo }

func (lowEnd) tighter(a, b int) bool { return a > b }

func (highEnd) of(s api.Span) int { return s.Hi }

func (highEnd) tighter(a, b int) bool { return a < b }

// chain is gauges by their indexes, with the sum of what they tell at one end.
// If it is not whole, it is no chain at all.
type chain struct {
	whole   bool
	indexes []int
	sum     int
}

// search seeks the tightest chains to a step at one end of spans.
type search[E end] struct {
	end    E
	gauges []api.Gauge
	// kept has by steps the tightest chain from there on. Without it the number of chains that are looked at would double with every pair of gauges of one stretch.
	kept map[int]chain
}

// chained returns the tightest bound of the chains from a to b at one end of spans, and the first chain that tells it.
func chained[E end](l []api.Gauge, a, b int) (int, []int, api.Errno) {
	if !Valid(l) {
		return 0, nil, api.ErrInvalid
	}
	if !isStretch(a, b) {
		return 0, nil, api.ErrRange
	}
	s := search[E]{gauges: l, kept: map[int]chain{b: {whole: true}}}
	best := s.tightest(a)
	if !best.whole {
		return 0, nil, api.ErrNone
	}
	return best.sum, best.indexes, api.OK
}

// tightest returns the tightest chain from a step on, of several the first one.
func (s *search[E]) tightest(from int) chain {
	best, known := s.kept[from]
	if known {
		return best
	}
	for c := range s.chains(from) {
		if !best.whole || s.end.tighter(c.sum, best.sum) {
			best = c
		}
	}
	s.kept[from] = best
	return best
}

// chains yields the chains from a step on in the order of their lists, but of those that begin with the same gauge only the tightest.
func (s *search[E]) chains(from int) iter.Seq[chain] {
	return func(yield func(chain) bool) {
		for i, g := range s.gauges {
			if g.From != from {
				continue
			}
			rest := s.tightest(g.To)
			if rest.whole && !yield(s.behind(i, rest)) {
				return
			}
		}
	}
}

// behind returns the chain of a gauge and, behind it, a chain.
func (s *search[E]) behind(first int, rest chain) chain {
	return chain{
		whole:   true,
		indexes: slices.Concat([]int{first}, rest.indexes),
		sum:     s.end.of(told(s.gauges[first])) + rest.sum,
	}
}

// chainSpan returns the sum of what gauges tell; false if their indexes are not a chain from a to b.
func chainSpan(l []api.Gauge, a, b int, indexes []int) (api.Span, bool) {
	var sum api.Span
	at := a
	for _, i := range indexes {
		if i < 0 || i >= len(l) || l[i].From != at {
			return api.Span{}, false
		}
		sum = added(sum, told(l[i]))
		at = l[i].To
	}
	return sum, at == b
}
