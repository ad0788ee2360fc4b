package gauge_test

import (
	"math"
	"math/big"
	"slices"
	"testing"

	"slipstream/api"
	"slipstream/gauge"
)

// chainsOf returns all chains from a to b, in their order as lists.
func chainsOf(l []api.Gauge, a, b int) [][]int {
	if a == b {
		return [][]int{{}}
	}
	var all [][]int
	for i, g := range l {
		if g.From == a && g.To <= b {
			for _, rest := range chainsOf(l, g.To, b) {
				all = append(all, slices.Concat([]int{i}, rest))
			}
		}
	}
	return all
}

func sumOf(l []api.Gauge, indexes []int) api.Span {
	var sum api.Span
	for _, i := range indexes {
		g := l[i]
		sum.Lo += g.Before.Lo + g.In.Lo - g.Out.Hi - g.After.Hi
		sum.Hi += g.Before.Hi + g.In.Hi - g.Out.Lo - g.After.Lo
	}
	return sum
}

// found is what is to be said of a stretch.
type found struct {
	any       bool
	bounds    api.Span
	low, high []int
}

// foundIn looks at all chains one by one.
func foundIn(l []api.Gauge, a, b int) found {
	var f found
	for _, c := range chainsOf(l, a, b) {
		s := sumOf(l, c)
		if !f.any || s.Lo > f.bounds.Lo {
			f.bounds.Lo, f.low = s.Lo, c
		}
		if !f.any || s.Hi < f.bounds.Hi {
			f.bounds.Hi, f.high = s.Hi, c
		}
		f.any = true
	}
	return f
}

func (f found) wrong() bool { return f.any && f.bounds.Lo > f.bounds.Hi }

// thrownGauges returns gauges between few steps that tell small numbers, so that many chains tell the same.
func thrownGauges(next func(int) int, steps, numbers int) []api.Gauge {
	var l []api.Gauge
	span := func() api.Span {
		lo := next(numbers)
		return api.Span{Lo: lo, Hi: lo + next(1+next(2*numbers))}
	}
	for range 1 + next(10) {
		from := next(steps)
		l = append(l, api.Gauge{From: from, To: from + 1 + next(steps-from), Before: span(), In: span(), Out: span(), After: span()})
	}
	return l
}

// checkStretch compares all that is said of a stretch with what all chains say.
func checkStretch(t *testing.T, l []api.Gauge, a, b int) {
	t.Helper()
	f := foundIn(l, a, b)
	chainError, stateError, proofError := api.OK, api.OK, api.ErrState
	bounds, proof := f.bounds, [2][]int{}
	var mean [2]api.Ratio
	switch {
	case !f.any:
		chainError, stateError, proofError = api.ErrNone, api.ErrNone, api.ErrNone
	case f.wrong():
		stateError, proofError = api.ErrState, api.OK
		bounds, proof = api.Span{}, [2][]int{f.low, f.high}
	default:
		mean = [2]api.Ratio{divided(bounds.Lo, b-a), divided(bounds.Hi, b-a)}
	}
	if n, c, e := gauge.Least(l, a, b); n != f.bounds.Lo || !slices.Equal(c, f.low) || e != chainError {
		t.Fatalf("%v: Least from %d to %d = %d, %v, %d, want %v", l, a, b, n, c, e, f)
	}
	if n, c, e := gauge.Most(l, a, b); n != f.bounds.Hi || !slices.Equal(c, f.high) || e != chainError {
		t.Fatalf("%v: Most from %d to %d = %d, %v, %d, want %v", l, a, b, n, c, e, f)
	}
	if s, e := gauge.Bounds(l, a, b); s != bounds || e != stateError {
		t.Fatalf("%v: Bounds from %d to %d = %v, %d, want %v", l, a, b, s, e, f)
	}
	low, high, e := gauge.Proof(l, a, b)
	if !slices.Equal(low, proof[0]) || !slices.Equal(high, proof[1]) || e != proofError {
		t.Fatalf("%v: Proof from %d to %d = %v, %v, %d, want %v", l, a, b, low, high, e, f)
	}
	if gauge.Proves(l, a, b, low, high) != f.wrong() || gauge.Proves(l, a, b, f.low, f.high) != f.wrong() {
		t.Fatalf("%v: Proves from %d to %d is wrong of %v", l, a, b, f)
	}
	if lo, hi, e := gauge.Mean(l, a, b); lo != mean[0] || hi != mean[1] || e != stateError {
		t.Fatalf("%v: Mean from %d to %d = %v, %v, %d, want %v", l, a, b, lo, hi, e, mean)
	}
}

func divided(n, d int) api.Ratio {
	r := big.NewRat(int64(n), int64(d))
	return api.Ratio{N: int(r.Num().Int64()), D: int(r.Denom().Int64())}
}

func TestAllChains(t *testing.T) {
	next := thrown(1)
	wrong, right, without := 0, 0, 0
	for range 4000 {
		steps := 1 + next(6)
		l := thrownGauges(next, steps, 1+next(4))
		first := [2]int{}
		for a := range steps {
			for b := a + 1; b <= steps; b++ {
				checkStretch(t, l, a, b)
				f := foundIn(l, a, b)
				switch {
				case !f.any:
					without++
				case f.wrong():
					wrong++
				default:
					right++
				}
				if f.wrong() && first == [2]int{} {
					first = [2]int{a, b}
				}
			}
		}
		want := api.ErrNone
		if first != [2]int{} {
			want = api.OK
		}
		if a, b, e := gauge.Wrong(l); a != first[0] || b != first[1] || e != want {
			t.Fatalf("%v: Wrong = %d, %d, %d, want %v", l, a, b, e, first)
		}
	}
	if wrong < 1000 || right < 1000 || without < 1000 {
		t.Errorf("%d stretches are wrong, %d right, %d without a chain", wrong, right, without)
	}
}

func TestExample(t *testing.T) {
	g := api.Gauge{From: 0, To: 7, Before: api.Span{Lo: 5, Hi: 6}, In: one(2), Out: one(1), After: one(3)}
	l := []api.Gauge{g, telling(0, 7, 5, 9)}
	checkStretch(t, l, 0, 7)
	if _, e := gauge.Bounds(l, 0, 7); e != api.ErrState {
		t.Errorf("Bounds: %d", e)
	}
	low, high, e := gauge.Proof(l, 0, 7)
	if !slices.Equal(low, []int{1}) || !slices.Equal(high, []int{0}) || e != api.OK {
		t.Errorf("Proof = %v, %v, %d", low, high, e)
	}
	if a, b, e := gauge.Wrong(l); a != 0 || b != 7 || e != api.OK {
		t.Errorf("Wrong = %d, %d, %d", a, b, e)
	}
}

// TestFirstChain: of chains that tell the same, the first list counts, not the shortest one.
func TestFirstChain(t *testing.T) {
	l := []api.Gauge{telling(0, 1, 1, 1), telling(1, 3, 2, 2), telling(0, 3, 3, 3), telling(1, 2, 1, 1), telling(2, 3, 1, 1), telling(0, 1, 1, 1)}
	for range 2 {
		want := chainsOf(l, 0, 3)[0]
		if n, c, e := gauge.Least(l, 0, 3); n != 3 || !slices.Equal(c, want) || e != api.OK {
			t.Errorf("Least = %d, %v, %d, want %v", n, c, e, want)
		}
		if n, c, e := gauge.Most(l, 0, 3); n != 3 || !slices.Equal(c, want) || e != api.OK {
			t.Errorf("Most = %d, %v, %d, want %v", n, c, e, want)
		}
		checkStretch(t, l, 0, 3)
		slices.Reverse(l)
	}
}

// TestWrongByFirst: the first stretch by a, then b, which may be that of a chain and that of a gauge, or of two chains.
func TestWrongByFirst(t *testing.T) {
	for _, c := range []struct {
		l    []api.Gauge
		a, b int
		e    api.Errno
	}{
		{[]api.Gauge{telling(0, 1, 0, 0)}, 0, 0, api.ErrNone},
		{[]api.Gauge{telling(0, 1, 0, 1), telling(0, 1, 1, 2), telling(0, 2, 5, 6)}, 0, 0, api.ErrNone},
		{[]api.Gauge{telling(0, 1, 0, 1), telling(0, 1, 2, 2)}, 0, 1, api.OK},
		{[]api.Gauge{telling(3, 9, 0, 1), telling(3, 9, 2, 2), telling(1, 4, 0, 0), telling(1, 4, 1, 1), telling(1, 3, 5, 9)}, 1, 4, api.OK},
		{[]api.Gauge{telling(5, 6, 1, 1), telling(6, 7, 1, 1), telling(5, 7, 3, 3)}, 5, 7, api.OK},
		{[]api.Gauge{telling(5, 6, 1, 1), telling(6, 7, 1, 1), telling(5, 7, 2, 2)}, 0, 0, api.ErrNone},
		{[]api.Gauge{telling(5, 6, 1, 1), telling(6, 9, 1, 1), telling(5, 8, 3, 3), telling(8, 9, 0, 0)}, 5, 9, api.OK},
		{[]api.Gauge{telling(7, 8, 1, 1), telling(7, 8, 2, 2), telling(0, 7, 0, 0)}, 0, 8, api.OK},
		{[]api.Gauge{telling(7, 8, 1, 1), telling(7, 8, 2, 2), telling(0, 6, 0, 0), telling(8, 9, 0, 0)}, 7, 8, api.OK},
		{[]api.Gauge{telling(api.MaxStep-1, api.MaxStep, 1, 1), telling(api.MaxStep-1, api.MaxStep, 2, 2), telling(0, 1, 0, 0)}, api.MaxStep - 1, api.MaxStep, api.OK},
	} {
		for range 2 {
			if a, b, e := gauge.Wrong(c.l); a != c.a || b != c.b || e != c.e {
				t.Errorf("%v: Wrong = %d, %d, %d, want %d, %d, %d", c.l, a, b, e, c.a, c.b, c.e)
			}
			slices.Reverse(c.l)
		}
	}
}

// TestProves takes all pairs of short lists of indexes, chains or not.
func TestProves(t *testing.T) {
	next := thrown(4)
	var lists [][]int
	numbers := []int{0, 1, 2, 3, 4, -1, 5, math.MaxInt, math.MinInt}
	lists = append(lists, nil, []int{})
	for _, i := range numbers {
		lists = append(lists, []int{i})
		for _, j := range numbers {
			lists = append(lists, []int{i, j})
		}
	}
	lists = append(lists, []int{0, 1, 2}, []int{0, 1, 3, 4}, []int{0, 0, 0}, make([]int, 1000))
	proofs := 0
	for range 60 {
		l := []api.Gauge{telling(0, 1, next(3), 3), telling(1, 2, 0, next(3)), telling(0, 2, 0, next(3)), telling(0, 2, next(6), 6), telling(0, next(3)+1, 4, 4+next(3))}
		for _, stretch := range [][2]int{{0, 2}, {0, 1}, {1, 2}, {0, 3}} {
			a, b := stretch[0], stretch[1]
			chains := chainsOf(l, a, b)
			isChain := func(c []int) bool {
				return slices.ContainsFunc(chains, func(d []int) bool { return slices.Equal(c, d) })
			}
			for _, low := range lists {
				for _, high := range lists {
					want := isChain(low) && isChain(high) && sumOf(l, low).Lo > sumOf(l, high).Hi
					if gauge.Proves(l, a, b, low, high) != want {
						t.Fatalf("%v: Proves from %d to %d of %v and %v is not %v", l, a, b, low, high, want)
					}
					if want {
						proofs++
					}
				}
			}
		}
	}
	if proofs < 100 {
		t.Errorf("only %d proofs", proofs)
	}
}

func TestProvesWrongArguments(t *testing.T) {
	l := []api.Gauge{telling(2, 5, 3, 3), telling(2, 5, 1, 2)}
	low, high := []int{0}, []int{1}
	if !gauge.Proves(l, 2, 5, low, high) || gauge.Proves(l, 2, 5, high, low) {
		t.Fatal("Proves of a proof")
	}
	for _, x := range append(badStretches(), [2]int{2, 4}, [2]int{1, 5}, [2]int{3, 5}, [2]int{2, 6}, [2]int{5, 2}) {
		if gauge.Proves(l, x[0], x[1], low, high) || gauge.Proves(l, x[0], x[1], nil, nil) {
			t.Errorf("Proves from %d to %d", x[0], x[1])
		}
	}
	for _, bad := range invalidGauges() {
		if gauge.Proves(append(slices.Clone(l), bad), 2, 5, low, high) {
			t.Errorf("Proves with the gauge %v", bad)
		}
	}
	if many := slices.Repeat(l, 31); gauge.Proves(many, 2, 5, low, high) || !gauge.Proves(many[:60], 2, 5, low, high) {
		t.Error("Proves of too many gauges")
	}
}

// TestManyChains has more chains than can be looked at one by one: to the end of the stretch, past it, and into dead ends.
func TestManyChains(t *testing.T) {
	next := thrown(8)
	for _, wide := range []int{1, 2, 3, 4, 6} {
		var l []api.Gauge
		lo, hi := 0, 0
		var low, high []int
		for stage := range api.MaxGauges / wide {
			lows, highs := []int{}, []int{}
			for range wide {
				x := next(1000) - 500
				y := x + 1000 + next(1000)
				lows, highs = append(lows, x), append(highs, y)
				l = append(l, telling(stage, stage+1, x, y))
			}
			lo, hi = lo+slices.Max(lows), hi+slices.Min(highs)
			low = append(low, wide*stage+slices.Index(lows, slices.Max(lows)))
			high = append(high, wide*stage+slices.Index(highs, slices.Min(highs)))
		}
		b := api.MaxGauges / wide
		if n, c, e := gauge.Least(l, 0, b); n != lo || !slices.Equal(c, low) || e != api.OK {
			t.Errorf("Least = %d, %v, %d, want %d, %v", n, c, e, lo, low)
		}
		if n, c, e := gauge.Most(l, 0, b); n != hi || !slices.Equal(c, high) || e != api.OK {
			t.Errorf("Most = %d, %v, %d, want %d, %v", n, c, e, hi, high)
		}
		if a, b, e := gauge.Wrong(l); a != 0 || b != 0 || e != api.ErrNone {
			t.Errorf("Wrong = %d, %d, %d", a, b, e)
		}
		for _, far := range []int{b + 1, api.MaxStep} {
			if _, _, e := gauge.Least(l, 0, far); e != api.ErrNone {
				t.Errorf("Least to %d: %d", far, e)
			}
		}
		// From the first gauge, which goes far, no way leads back to the stretch.
		l[0].To = api.MaxStep
		if s, e := gauge.Bounds(l, 0, 1); wide > 1 && e != api.OK || wide == 1 && e != api.ErrNone {
			t.Errorf("Bounds = %v, %d", s, e)
		}
	}
	// Each pair of steps has a gauge.
	var l []api.Gauge
	for from := range 11 {
		for to := from + 1; to <= 10; to++ {
			l = append(l, telling(from, to, next(9), 9+next(9)))
		}
	}
	checkStretch(t, l, 0, 10)
}

// TestGreatestBounds: what the longest chain of the greatest gauges tells.
func TestGreatestBounds(t *testing.T) {
	const m = api.MaxMass
	var l []api.Gauge
	for i := range api.MaxGauges {
		l = append(l, api.Gauge{From: i, To: i + 1, Before: one(m), In: one(m), Out: one(-m), After: one(-m)})
	}
	const all = 4 * m * api.MaxGauges
	if s, e := gauge.Bounds(l, 0, api.MaxGauges); s != one(all) || e != api.OK {
		t.Errorf("Bounds = %v, %d", s, e)
	}
	if lo, hi, e := gauge.Mean(l, 0, api.MaxGauges); lo != (api.Ratio{N: 4 * m, D: 1}) || hi != lo || e != api.OK {
		t.Errorf("Mean = %v, %v, %d", lo, hi, e)
	}
	for i := range l {
		l[i] = api.Gauge{From: i, To: i + 1, Before: api.Span{Lo: -m, Hi: m}, In: api.Span{Lo: -m, Hi: m}, Out: api.Span{Lo: -m, Hi: m}, After: api.Span{Lo: -m, Hi: m}}
	}
	if s, e := gauge.Bounds(l, 0, api.MaxGauges); s != (api.Span{Lo: -all, Hi: all}) || e != api.OK {
		t.Errorf("Bounds = %v, %d", s, e)
	}
}

func TestMean(t *testing.T) {
	for _, c := range []struct {
		to, lo, hi     int
		wantLo, wantHi api.Ratio
	}{
		{10, 4, 6, api.Ratio{N: 2, D: 5}, api.Ratio{N: 3, D: 5}}, {10, -6, 0, api.Ratio{N: -3, D: 5}, api.Ratio{D: 1}}, {1, -7, 7, api.Ratio{N: -7, D: 1}, api.Ratio{N: 7, D: 1}}, {7, -14, 21, api.Ratio{N: -2, D: 1}, api.Ratio{N: 3, D: 1}},
		{7, -1, 1, api.Ratio{N: -1, D: 7}, api.Ratio{N: 1, D: 7}}, {6, -9, 4, api.Ratio{N: -3, D: 2}, api.Ratio{N: 2, D: 3}}, {1, 0, 0, api.Ratio{D: 1}, api.Ratio{D: 1}}, {api.MaxStep, 0, api.MaxMass, api.Ratio{D: 1}, api.Ratio{N: 1000, D: 1}},
		{api.MaxStep, 1 - api.MaxMass, api.MaxMass - 1, api.Ratio{N: 1 - api.MaxMass, D: api.MaxStep}, api.Ratio{N: api.MaxMass - 1, D: api.MaxStep}}, {720720, 360360, 720719, api.Ratio{N: 1, D: 2}, api.Ratio{N: 720719, D: 720720}},
	} {
		l := []api.Gauge{telling(0, c.to, c.lo, c.hi)}
		if lo, hi, e := gauge.Mean(l, 0, c.to); lo != c.wantLo || hi != c.wantHi || e != api.OK {
			t.Errorf("%v: Mean = %v, %v, %d", c, lo, hi, e)
		}
	}
	// The number of steps is that of the stretch, wherever it begins.
	if lo, hi, e := gauge.Mean([]api.Gauge{telling(97, 100, 1, 6)}, 97, 100); lo != (api.Ratio{N: 1, D: 3}) || hi != (api.Ratio{N: 2, D: 1}) || e != api.OK {
		t.Errorf("Mean = %v, %v, %d", lo, hi, e)
	}
}

// TestTrueDrag: gauges that have the true drag contradict nowhere, all bounds have it, and a further gauge makes none wider.
func TestTrueDrag(t *testing.T) {
	next := thrown(6)
	const steps = 8
	for range 300 {
		drags := [steps]int{}
		for i := range drags {
			drags[i] = next(21) - 10
		}
		drag := func(a, b int) int {
			n := 0
			for _, d := range drags[a:b] {
				n += d
			}
			return n
		}
		before := map[[2]int]api.Span{}
		var l []api.Gauge
		for range 12 {
			from := next(steps)
			to := from + 1 + next(steps-from)
			l = append(l, telling(from, to, drag(from, to)-next(6), drag(from, to)+next(6)))
			if a, b, e := gauge.Wrong(l); e != api.ErrNone {
				t.Fatalf("%v: Wrong = %d, %d, %d", l, a, b, e)
			}
			for a := range steps {
				for b := a + 1; b <= steps; b++ {
					s, e := gauge.Bounds(l, a, b)
					if e == api.ErrNone {
						continue
					}
					if e != api.OK || s.Lo > drag(a, b) || s.Hi < drag(a, b) {
						t.Fatalf("%v: Bounds from %d to %d = %v, %d, the drag is %d", l, a, b, s, e, drag(a, b))
					}
					if old, known := before[[2]int{a, b}]; known && (s.Lo < old.Lo || s.Hi > old.Hi) {
						t.Fatalf("%v: Bounds from %d to %d were %v, and are %v", l, a, b, old, s)
					}
					before[[2]int{a, b}] = s
				}
			}
		}
	}
}

func TestBoundErrors(t *testing.T) {
	good := []api.Gauge{telling(0, 1, 0, 1), telling(0, 1, 0, 2)}
	for _, x := range badStretches() {
		wantErrors(t, good, x[0], x[1], api.ErrRange)
		wantErrors(t, append(slices.Clone(good), telling(0, 1, 3, 3)), x[0], x[1], api.ErrRange)
	}
	for _, x := range [][2]int{{0, 2}, {1, 2}, {2, 3}, {0, api.MaxStep}, {api.MaxStep - 1, api.MaxStep}} {
		wantErrors(t, good, x[0], x[1], api.ErrNone)
	}
	for _, l := range invalidLists() {
		for _, x := range [][2]int{{0, 1}, {2, 5}, {5, 2}, {-1, math.MaxInt}} {
			wantErrors(t, l, x[0], x[1], api.ErrInvalid)
		}
		if a, b, e := gauge.Wrong(l); a != 0 || b != 0 || e != api.ErrInvalid {
			t.Errorf("%v: Wrong = %d, %d, %d", l, a, b, e)
		}
	}
}

// wantErrors checks that every call of a stretch returns an error, and nothing else.
func wantErrors(t *testing.T, l []api.Gauge, a, b int, want api.Errno) {
	t.Helper()
	if n, c, e := gauge.Least(l, a, b); n != 0 || len(c) != 0 || e != want {
		t.Errorf("Least from %d to %d = %d, %v, %d, want %d", a, b, n, c, e, want)
	}
	if n, c, e := gauge.Most(l, a, b); n != 0 || len(c) != 0 || e != want {
		t.Errorf("Most from %d to %d = %d, %v, %d, want %d", a, b, n, c, e, want)
	}
	if s, e := gauge.Bounds(l, a, b); s != (api.Span{}) || e != want {
		t.Errorf("Bounds from %d to %d = %v, %d, want %d", a, b, s, e, want)
	}
	if low, high, e := gauge.Proof(l, a, b); len(low) != 0 || len(high) != 0 || e != want {
		t.Errorf("Proof from %d to %d = %v, %v, %d, want %d", a, b, low, high, e, want)
	}
	if lo, hi, e := gauge.Mean(l, a, b); lo != (api.Ratio{}) || hi != (api.Ratio{}) || e != want {
		t.Errorf("Mean from %d to %d = %v, %v, %d, want %d", a, b, lo, hi, e, want)
	}
}
