package gauge_test

import (
	"fmt"
	"math"
	"slices"
	"testing"

	"slipstream/api"
	"slipstream/gauge"
)

// arguments are those of all calls.
type arguments struct {
	g          api.Grid
	w          api.Wall
	rules      []api.Rule
	from, to   int
	c          corners
	axis       int
	gauges     []api.Gauge
	a, b       int
	low, high  []int
	one, other api.Gauge
	number     int
}

// right returns arguments of which every call but Bounds and Mean returns something: those contradict.
func right() arguments {
	g := filled(4, 3, 9, 1)
	return arguments{
		g: g, w: sparse(g, 3, 2), rules: []api.Rule{turn(), shift(2)}, from: 2, to: 5, c: corners{at(0, 0), at(2, 1)}, axis: 1,
		gauges: []api.Gauge{telling(0, 1, 3, 4), telling(1, 3, 3, 4), telling(0, 2, 1, 1), telling(2, 3, 0, 2), telling(3, 4, 0, 0)}, a: 0, b: 3,
		low: []int{0, 1}, high: []int{2, 3}, one: middle(), other: api.Gauge{From: 5, To: 6}, number: 3,
	}
}

// roomy returns a list with its own first element again behind it in its memory.
func roomy[T any](l []T) []T {
	room := make([]T, len(l), len(l)+5)
	copy(room, l)
	for i := range 5 {
		room[:cap(room)][len(l)+i] = l[0]
	}
	return room
}

// slot is memory of an argument or a result.
type slot struct {
	scribble func()
	intact   func() bool
}

func slotOf[T comparable](l []T, junk T) slot {
	before := slices.Clone(l[:cap(l)])
	return slot{
		scribble: func() {
			for i := range l[:cap(l)] {
				l[:cap(l)][i] = junk
			}
		},
		intact: func() bool { return slices.Equal(l[:cap(l)], before) },
	}
}

// given returns arguments in memory with room behind each list, and its slots.
func given(a arguments) (arguments, []slot) {
	a.g.Cells, a.w.Kind, a.w.Body, a.rules = roomy(a.g.Cells), roomy(a.w.Kind), roomy(a.w.Body), roomy(a.rules)
	a.gauges, a.low, a.high = roomy(a.gauges), roomy(a.low), roomy(a.high)
	return a, []slot{
		slotOf(a.g.Cells, api.Cell{-9, -9, -9, -9}), slotOf(a.w.Kind, -9), slotOf(a.w.Body, -9), slotOf(a.rules, api.Rule{Kind: 9}),
		slotOf(a.gauges, api.Gauge{From: -9}), slotOf(a.low, -9), slotOf(a.high, -9),
	}
}

// outcome is what a call returns.
type outcome struct {
	name  string
	e     api.Errno
	zero  bool
	text  string
	lists []slot
}

// outcomes calls everything.
func outcomes(x arguments) []outcome {
	var l []outcome
	add := func(name string, e api.Errno, zero bool, lists [][]int, results ...any) {
		o := outcome{name: name, e: e, zero: zero, text: fmt.Sprint(e, lists, results)}
		for _, list := range lists {
			o.lists = append(o.lists, slotOf(list, -9))
		}
		l = append(l, o)
	}
	n, e := gauge.Momentum(x.g, x.c.a, x.c.b, x.axis)
	add("Momentum", e, n == 0, nil, n)
	in, out, e := gauge.Flux(x.g, x.w, x.rules, x.from, x.c.a, x.c.b, x.axis)
	add("Flux", e, in == 0 && out == 0, nil, in, out)
	g, e := gauge.Told(x.g, x.w, x.rules, x.from, x.to, x.c.a, x.c.b, x.axis)
	add("Told", e, g == api.Gauge{}, nil, g)
	s, e := gauge.Tells(x.one)
	add("Tells", e, s == api.Span{}, nil, s)
	g, e = gauge.Blurred(x.one, x.number)
	add("Blurred", e, g == api.Gauge{}, nil, g)
	is, e := gauge.Has(x.one, x.number)
	add("Has", e, !is, nil, is)
	n, c, e := gauge.Least(x.gauges, x.a, x.b)
	add("Least", e, n == 0 && len(c) == 0, [][]int{c}, n)
	n, c, e = gauge.Most(x.gauges, x.a, x.b)
	add("Most", e, n == 0 && len(c) == 0, [][]int{c}, n)
	s, e = gauge.Bounds(x.gauges, x.a, x.b)
	add("Bounds", e, s == api.Span{}, nil, s)
	c, d, e := gauge.Proof(x.gauges, x.a, x.b)
	add("Proof", e, len(c) == 0 && len(d) == 0, [][]int{c, d})
	a, b, e := gauge.Wrong(x.gauges)
	add("Wrong", e, a == 0 && b == 0, nil, a, b)
	lo, hi, e := gauge.Mean(x.gauges, x.a, x.b)
	add("Mean", e, lo == api.Ratio{} && hi == api.Ratio{}, nil, lo, hi)
	g, e = gauge.Joined(x.one, x.other)
	add("Joined", e, g == api.Gauge{}, nil, g)
	text := gauge.Format(x.gauges)
	add("Format", api.OK, false, nil, text)
	read, line, e := gauge.Parse(text)
	add("Parse", e, len(read) == 0 && line == 0, nil, read)
	l[len(l)-1].lists = []slot{slotOf(read, api.Gauge{From: -9})}
	add("calls that only tell", api.OK, false, nil, gauge.Valid(x.gauges), gauge.ValidSpan(x.one.Before), gauge.Proves(x.gauges, x.a, x.b, x.low, x.high))
	return l
}

func TestRight(t *testing.T) {
	for _, o := range outcomes(right()) {
		want := api.OK
		if o.name == "Bounds" || o.name == "Mean" {
			want = api.ErrState
		}
		if o.e != want || want == api.OK && o.zero {
			t.Errorf("%s = %s", o.name, o.text)
		}
	}
	if x := right(); !gauge.Proves(x.gauges, x.a, x.b, x.low, x.high) {
		t.Error("Proves of a proof")
	}
}

// TestNewMemory writes over a result's memory, list by list, and looks whether another list of it has changed, an argument, or the next result.
func TestNewMemory(t *testing.T) {
	still := right()
	still.gauges[2], still.b = telling(0, 1, 9, 9), 1
	for _, x := range []arguments{right(), still} {
		a, slots := given(x)
		want, results := outcomes(a), outcomes(a)
		for i, o := range results {
			for j, r := range o.lists {
				r.scribble()
				for _, other := range o.lists[j+1:] {
					if !other.intact() {
						t.Errorf("%s: two lists of a result share memory", o.name)
					}
				}
			}
			if o.text != want[i].text {
				t.Errorf("%s gives %s, and then %s", o.name, want[i].text, o.text)
			}
		}
		for _, s := range slots {
			if !s.intact() {
				t.Errorf("a call changes an argument, or keeps it")
			}
		}
		for i, o := range outcomes(a) {
			if o.text != want[i].text {
				t.Errorf("%s gives %s, and after that was written over %s", o.name, want[i].text, o.text)
			}
		}
	}
}

// TestNothingKept: what is changed in the arguments after a call does not change its result.
func TestNothingKept(t *testing.T) {
	a, slots := given(right())
	results := outcomes(a)
	for _, s := range slots {
		s.scribble()
	}
	for _, o := range results {
		for _, r := range o.lists {
			if !r.intact() {
				t.Errorf("%s: a result shares memory with an argument", o.name)
			}
		}
	}
}

// TestNilIsEmpty: nil and empty lists are the same.
func TestNilIsEmpty(t *testing.T) {
	changes := [][2]func(*arguments){
		{func(x *arguments) { x.g.Cells = nil }, func(x *arguments) { x.g.Cells = []api.Cell{} }},
		{func(x *arguments) { x.w.Kind = nil }, func(x *arguments) { x.w.Kind = []int{} }},
		{func(x *arguments) { x.w.Body = nil }, func(x *arguments) { x.w.Body = []int{} }},
		{func(x *arguments) { x.rules = nil }, func(x *arguments) { x.rules = []api.Rule{} }},
		{func(x *arguments) { x.gauges = nil }, func(x *arguments) { x.gauges = []api.Gauge{} }},
		{func(x *arguments) { x.low = nil }, func(x *arguments) { x.low = []int{} }},
		{func(x *arguments) { x.high = nil }, func(x *arguments) { x.high = []int{} }},
	}
	for i, c := range changes {
		x, y := right(), right()
		c[0](&x)
		c[1](&y)
		is, are := outcomes(x), outcomes(y)
		for j := range is {
			if is[j].text != are[j].text {
				t.Errorf("%d: %s of nil gives %s, of an empty list %s", i, is[j].name, is[j].text, are[j].text)
			}
		}
	}
}

// TestWild gives calls numbers beyond all ranges, several at once: they all return, and with an error nothing else.
func TestWild(t *testing.T) {
	next := thrown(21)
	numbers := []int{0, 1, 2, 3, 4, 5, -1, 64, 65, 1000, 1001, api.MaxStep, api.MaxStep + 1, api.MaxMass, api.MaxMass + 1, -api.MaxMass, -api.MaxMass - 1, 1 << 62, math.MaxInt, math.MinInt}
	wild := func() int { return numbers[next(len(numbers))] }
	for range 20000 {
		x := right()
		for range 1 + next(3) {
			switch next(13) {
			case 0:
				x.g.Wide, x.g.High = wild(), wild()
			case 1:
				x.g.Cells[next(12)][next(4)] = wild()
			case 2:
				x.w.Kind[next(12)] = wild()
			case 3:
				x.w.Body[next(12)] = wild()
			case 4:
				x.rules[next(2)] = api.Rule{Kind: next(4), By: wild()}
			case 5:
				x.from, x.to = wild(), wild()
			case 6:
				x.c = corners{at(wild(), wild()), at(wild(), wild())}
			case 7:
				x.axis = wild()
			case 8:
				g := &x.gauges[next(5)]
				g.From, g.To = wild(), wild()
			case 9:
				x.a, x.b = wild(), wild()
			case 10:
				x.low[next(2)], x.high[next(2)] = wild(), wild()
			case 11:
				x.one = withSpan(x.one, next(4), api.Span{Lo: wild(), Hi: wild()})
			case 12:
				x.number, x.other.From = wild(), wild()
			}
		}
		for _, o := range outcomes(x) {
			if o.e < api.OK || o.e > api.ErrCommand || o.e != api.OK && o.name != "Parse" && !o.zero {
				t.Fatalf("%s of %v gives %s", o.name, x, o.text)
			}
		}
	}
}
