package gauge_test

import (
	"math"
	"slices"
	"testing"

	"slipstream/api"
	"slipstream/gauge"
)

func TestValidSpan(t *testing.T) {
	for _, s := range validSpans() {
		if !gauge.ValidSpan(s) {
			t.Errorf("%v is not valid", s)
		}
	}
	for _, s := range invalidSpans() {
		if gauge.ValidSpan(s) {
			t.Errorf("%v is valid", s)
		}
	}
}

func TestValid(t *testing.T) {
	for _, g := range validGauges() {
		if !gauge.Valid([]api.Gauge{g}) || !gauge.Valid([]api.Gauge{middle(), g}) {
			t.Errorf("%v is not valid", g)
		}
	}
	for n := 1; n <= api.MaxGauges; n++ {
		if !gauge.Valid(slices.Repeat([]api.Gauge{middle()}, n)) {
			t.Errorf("%d gauges are not valid", n)
		}
	}
	for _, l := range invalidLists() {
		if gauge.Valid(l) {
			t.Errorf("%v is valid", l)
		}
	}
}

func TestTells(t *testing.T) {
	example := api.Gauge{From: 0, To: 1, Before: api.Span{Lo: 5, Hi: 6}, In: one(2), Out: one(1), After: one(3)}
	if s, e := gauge.Tells(example); s != (api.Span{Lo: 3, Hi: 4}) || e != api.OK {
		t.Errorf("Tells = %v, %d", s, e)
	}
	const m = api.MaxMass
	for _, c := range []struct {
		spans [4]api.Span
		want  api.Span
	}{
		{[4]api.Span{{Lo: -7, Hi: 11}}, api.Span{Lo: -7, Hi: 11}},
		{[4]api.Span{1: {Lo: -7, Hi: 11}}, api.Span{Lo: -7, Hi: 11}},
		{[4]api.Span{2: {Lo: -7, Hi: 11}}, api.Span{Lo: -11, Hi: 7}},
		{[4]api.Span{3: {Lo: -7, Hi: 11}}, api.Span{Lo: -11, Hi: 7}},
		{[4]api.Span{{Lo: 1, Hi: 2}, {Lo: 10, Hi: 30}, {Lo: 100, Hi: 400}, {Lo: 1000, Hi: 5000}}, api.Span{Lo: 11 - 5400, Hi: 32 - 1100}},
		{[4]api.Span{one(m), one(m), one(-m), one(-m)}, one(4 * m)},
		{[4]api.Span{one(-m), one(-m), one(m), one(m)}, one(-4 * m)},
		{[4]api.Span{{Lo: -m, Hi: m}, {Lo: -m, Hi: m}, {Lo: -m, Hi: m}, {Lo: -m, Hi: m}}, api.Span{Lo: -4 * m, Hi: 4 * m}},
	} {
		g := api.Gauge{From: 1, To: 2, Before: c.spans[0], In: c.spans[1], Out: c.spans[2], After: c.spans[3]}
		if s, e := gauge.Tells(g); s != c.want || e != api.OK {
			t.Errorf("Tells of %v = %v, %d, want %v", g, s, e, c.want)
		}
	}
	for _, g := range invalidGauges() {
		if s, e := gauge.Tells(g); s != (api.Span{}) || e != api.ErrInvalid {
			t.Errorf("Tells of %v = %v, %d", g, s, e)
		}
	}
}

func TestHas(t *testing.T) {
	for _, g := range validGauges() {
		s := done[api.Span](t)(gauge.Tells(g))
		for _, n := range []int{s.Lo - 1, s.Lo, s.Lo + 1, s.Hi - 1, s.Hi, s.Hi + 1, 0, math.MinInt, math.MaxInt} {
			want := s.Lo <= n && n <= s.Hi
			if is, e := gauge.Has(g, n); is != want || e != api.OK {
				t.Errorf("Has(%v, %d) = %v, %d", g, n, is, e)
			}
		}
	}
	for _, g := range invalidGauges() {
		for _, n := range []int{0, 1, math.MinInt, math.MaxInt} {
			if is, e := gauge.Has(g, n); is || e != api.ErrInvalid {
				t.Errorf("Has(%v, %d) = %v, %d", g, n, is, e)
			}
		}
	}
}

func TestBlurred(t *testing.T) {
	g := api.Gauge{From: 4, To: 9, Before: api.Span{Lo: 5, Hi: 6}, In: one(-2), Out: api.Span{Lo: -1, Hi: 1}, After: one(api.MaxMass - 2)}
	want := api.Gauge{From: 4, To: 9, Before: api.Span{Lo: 2, Hi: 9}, In: api.Span{Lo: -5, Hi: 1}, Out: api.Span{Lo: -4, Hi: 4}, After: api.Span{Lo: api.MaxMass - 5, Hi: api.MaxMass}}
	if b, e := gauge.Blurred(g, 3); b != want || e != api.OK {
		t.Errorf("Blurred = %v, %d", b, e)
	}
	wider := func(s api.Span, by int) api.Span {
		return api.Span{Lo: max(s.Lo-by, -api.MaxMass), Hi: min(s.Hi+by, api.MaxMass)}
	}
	for _, g := range validGauges() {
		for _, by := range []int{0, 1, 3, 1000, api.MaxMass - 1, api.MaxMass} {
			b := done[api.Gauge](t)(gauge.Blurred(g, by))
			want := api.Gauge{From: g.From, To: g.To, Before: wider(g.Before, by), In: wider(g.In, by), Out: wider(g.Out, by), After: wider(g.After, by)}
			if b != want || !gauge.Valid([]api.Gauge{b}) {
				t.Errorf("Blurred(%v, %d) = %v", g, by, b)
			}
			// What a gauge tells, a blurred one has.
			s := done[api.Span](t)(gauge.Tells(g))
			for _, n := range []int{s.Lo, (s.Lo + s.Hi) / 2, s.Hi} {
				if is, e := gauge.Has(b, n); !is || e != api.OK {
					t.Errorf("%v blurred by %d has not %d", g, by, n)
				}
			}
		}
		if b := done[api.Gauge](t)(gauge.Blurred(g, 0)); b != g {
			t.Errorf("%v blurred by 0 is %v", g, b)
		}
	}
	for _, by := range []int{-1, api.MaxMass + 1, math.MinInt, math.MaxInt} {
		if b, e := gauge.Blurred(middle(), by); b != (api.Gauge{}) || e != api.ErrRange {
			t.Errorf("Blurred by %d = %v, %d", by, b, e)
		}
	}
	for _, g := range invalidGauges() {
		for _, by := range []int{0, 1, -1, math.MaxInt} {
			if b, e := gauge.Blurred(g, by); b != (api.Gauge{}) || e != api.ErrInvalid {
				t.Errorf("Blurred(%v, %d) = %v, %d", g, by, b, e)
			}
		}
	}
}

func TestJoined(t *testing.T) {
	f := api.Gauge{From: 0, To: 3, Before: api.Span{Lo: 1, Hi: 2}, In: api.Span{Lo: 10, Hi: 30}, Out: api.Span{Lo: -50, Hi: 70}, After: api.Span{Lo: 100, Hi: 200}}
	g := api.Gauge{From: 3, To: 4, Before: api.Span{Lo: 300, Hi: 500}, In: api.Span{Lo: 1000, Hi: 6000}, Out: api.Span{Lo: 8000, Hi: 9000}, After: api.Span{Lo: 4, Hi: 7}}
	want := api.Gauge{From: 0, To: 4, Before: f.Before, In: api.Span{Lo: 1010, Hi: 6030}, Out: api.Span{Lo: 7950, Hi: 9070}, After: g.After}
	if j, e := gauge.Joined(f, g); j != want || e != api.OK {
		t.Errorf("Joined = %v, %d", j, e)
	}
	for _, x := range [][4]int{{3, 4, 0, 3}, {0, 3, 2, 4}, {0, 3, 4, 5}, {0, 3, 0, 3}, {0, 3, 0, 4}, {0, api.MaxStep, 0, api.MaxStep}, {1, 3, 2, 3}} {
		f.From, f.To, g.From, g.To = x[0], x[1], x[2], x[3]
		if j, e := gauge.Joined(f, g); j != (api.Gauge{}) || e != api.ErrState {
			t.Errorf("%v: Joined = %v, %d", x, j, e)
		}
	}
	f.From, f.To, g.From, g.To = 0, 1, 1, api.MaxStep
	if j, e := gauge.Joined(f, g); j.From != 0 || j.To != api.MaxStep || e != api.OK {
		t.Errorf("Joined = %v, %d", j, e)
	}
}

func TestJoinedLimit(t *testing.T) {
	const m = api.MaxMass
	for _, c := range []struct {
		a, b api.Span
		e    api.Errno
	}{
		{one(m), one(0), api.OK}, {one(m), one(1), api.ErrLimit}, {one(-m), one(0), api.OK}, {one(-m), one(-1), api.ErrLimit}, {one(m), one(-1), api.OK}, {one(-m), one(m), api.OK},
		{api.Span{Hi: m}, api.Span{Hi: 1}, api.ErrLimit}, {api.Span{Lo: -m}, api.Span{Lo: -1}, api.ErrLimit}, {api.Span{Lo: -m, Hi: m}, one(0), api.OK}, {api.Span{Lo: -m, Hi: m}, one(1), api.ErrLimit}, {api.Span{Lo: -m, Hi: m}, one(-1), api.ErrLimit},
		{api.Span{Hi: m - 1}, api.Span{Hi: 1}, api.OK}, {api.Span{Lo: 1 - m}, api.Span{Lo: -1}, api.OK}, {one(m), one(m), api.ErrLimit}, {one(-m), one(-m), api.ErrLimit},
	} {
		for which := 1; which <= 2; which++ {
			f, g := withSpan(telling(0, 1, m, m), which, c.a), withSpan(telling(1, 2, m, m), which, c.b)
			f.After, g.After = one(-m), one(-m)
			for _, x := range [2][2]api.Gauge{{f, g}, {withSpan(f, which, c.b), withSpan(g, which, c.a)}} {
				j, e := gauge.Joined(x[0], x[1])
				if e != c.e || e != api.OK && j != (api.Gauge{}) || e == api.OK && !gauge.Valid([]api.Gauge{j}) {
					t.Errorf("Joined(%v, %v) = %v, %d, want %d", x[0], x[1], j, e, c.e)
				}
			}
			// Gauges that do not fit are ErrState, also where the sum is too much.
			f.From, f.To = 0, 2
			if j, e := gauge.Joined(f, g); j != (api.Gauge{}) || e != api.ErrState {
				t.Errorf("Joined(%v, %v) = %v, %d", f, g, j, e)
			}
		}
	}
	for _, bad := range invalidGauges() {
		good := middle()
		good.From, good.To = 6, 7
		for _, x := range [][2]api.Gauge{{bad, good}, {good, bad}, {bad, bad}} {
			if j, e := gauge.Joined(x[0], x[1]); j != (api.Gauge{}) || e != api.ErrInvalid {
				t.Errorf("Joined(%v, %v) = %v, %d", x[0], x[1], j, e)
			}
		}
	}
}

// TestJoinedIsChain: where the first gauge ends with the one number with which the second one begins, both joined tell what their chain tells.
func TestJoinedIsChain(t *testing.T) {
	next := thrown(9)
	span := func() api.Span {
		lo := next(41) - 20
		return api.Span{Lo: lo, Hi: lo + next(9)}
	}
	for range 500 {
		f := api.Gauge{From: 0, To: 2, Before: span(), In: span(), Out: span(), After: one(next(9) - 4)}
		g := api.Gauge{From: 2, To: 3, Before: f.After, In: span(), Out: span(), After: span()}
		s := done[api.Span](t)(gauge.Tells(done[api.Gauge](t)(gauge.Joined(f, g))))
		if b := done[api.Span](t)(gauge.Bounds([]api.Gauge{f, g}, 0, 3)); s != b {
			t.Errorf("%v and %v joined tell %v, their chain %v", f, g, s, b)
		}
		// Any spans: the chain tells less.
		f.After, g.Before = span(), span()
		if f.After.Lo <= g.Before.Hi && g.Before.Lo <= f.After.Hi {
			s = done[api.Span](t)(gauge.Tells(done[api.Gauge](t)(gauge.Joined(f, g))))
			if b := done[api.Span](t)(gauge.Bounds([]api.Gauge{f, g}, 0, 3)); b.Lo > s.Lo || b.Hi < s.Hi {
				t.Errorf("%v and %v joined tell %v, their chain %v", f, g, s, b)
			}
		}
	}
}
