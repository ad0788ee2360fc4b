package wall_test

import (
	"math"
	"slices"
	"testing"

	"slipstream/api"
	"slipstream/wall"
)

func TestValid(t *testing.T) {
	for _, x := range places() {
		if !wall.Valid(x.g, x.w) {
			t.Errorf("not valid: %d by %d, %v", x.g.Wide, x.g.High, x.w)
		}
	}
	for _, x := range invalidPlaces() {
		if wall.Valid(x.g, x.w) {
			t.Errorf("valid: %v in %v", x.w, x.g)
		}
	}
}

// TestValidKinds tries all kinds with all bodies about their limits.
func TestValidKinds(t *testing.T) {
	g := filled(1, 1, 3, 1)
	for kind := -2; kind <= 6; kind++ {
		for body := -2; body <= 12; body++ {
			want := kind == 0 && body == 0 || 1 <= kind && kind <= 3 && 1 <= body && body <= 9
			if wall.Valid(g, api.Wall{Kind: []int{kind}, Body: []int{body}}) != want {
				t.Errorf("kind %d, body %d: valid is not %v", kind, body, want)
			}
		}
	}
}

func TestOpen(t *testing.T) {
	for _, s := range sides() {
		g := filled(s[0], s[1], 9, 1)
		if w, e := wall.Open(g); !equalWalls(w, opened(g)) || e != api.OK {
			t.Errorf("Open of %d by %d = %v, %d", s[0], s[1], w, e)
		}
	}
	for _, x := range invalidPlaces() {
		want := api.OK
		if !wall.Valid(x.g, opened(x.g)) {
			want = api.ErrInvalid
		}
		if w, e := wall.Open(x.g); e != want || e != api.OK && !isZeroWall(w) {
			t.Errorf("Open(%v) = %v, %d", x.g, w, e)
		}
	}
}

func cells() []api.Cell {
	return []api.Cell{{}, {1, 2, 3, 4}, {5, 0, 0, 0}, {0, 6, 0, 0}, {0, 0, 7, 0}, {0, 0, 0, 8}, {api.MaxMass}, {0, 0, 0, api.MaxMass}, {250000000, 250000000, 250000000, 250000000}}
}

func TestSent(t *testing.T) {
	for _, c := range cells() {
		for kind := api.WOpen; kind <= api.WBlash; kind++ {
			d, e := wall.Sent(c, kind)
			if d != afterWall(c, kind) || e != api.OK {
				t.Errorf("Sent(%v, %d) = %v, %d, want %v", c, kind, d, e, afterWall(c, kind))
			}
			if b, e := wall.Sent(d, kind); b != c || e != api.OK {
				t.Errorf("%v, sent twice by %d, is %v, %d", c, kind, b, e)
			}
		}
		for _, kind := range append(badNumbers(), 4) {
			if d, e := wall.Sent(c, kind); d != (api.Cell{}) || e != api.ErrRange {
				t.Errorf("Sent(%v, %d) = %v, %d", c, kind, d, e)
			}
		}
	}
	for _, c := range []api.Cell{{-1}, {0, 0, 0, -1}, {1, -1}, {api.MaxMass, 1}, {api.MaxMass + 1}, {math.MaxInt, math.MaxInt, 2}, {math.MinInt, math.MinInt}} {
		for kind := -1; kind <= 4; kind++ {
			if d, e := wall.Sent(c, kind); d != (api.Cell{}) || e != api.ErrInvalid {
				t.Errorf("Sent(%v, %d) = %v, %d", c, kind, d, e)
			}
		}
	}
}

// TestInvalidPlaces calls everything with a grid or a wall that is not valid; the other arguments are in their ranges, and then also not.
func TestInvalidPlaces(t *testing.T) {
	for _, x := range invalidPlaces() {
		for _, good := range []bool{true, false} {
			l, p, number, body := []api.Rule{turn()}, api.Point{}, 1, 1
			if !good {
				l, p, number, body = nil, api.Point{X: -1}, -1, 0
			}
			for _, c := range gridCalls(l, number, number) {
				if h, e := c.do(x.g, x.w); !isZero(h) || e != api.ErrInvalid {
					t.Errorf("%s of %v = %v, %d", c.name, x, h, e)
				}
			}
			calls := append(putCalls(p, p, number, number, body),
				wallCall{"Mirrored", wall.Mirrored},
				wallCall{"Removed", func(g api.Grid, w api.Wall) (api.Wall, api.Errno) { return wall.Removed(g, w, body) }})
			for _, c := range calls {
				if w, e := c.do(x.g, x.w); !isZeroWall(w) || e != api.ErrInvalid {
					t.Errorf("%s of %v = %v, %d", c.name, x, w, e)
				}
			}
			for _, c := range listCalls(p, body) {
				if l, e := c.do(x.g, x.w); len(l) != 0 || e != api.ErrInvalid {
					t.Errorf("%s of %v = %v, %d", c.name, x, l, e)
				}
			}
			if p, e := wall.Impulse(x.g, x.w, body); p != (api.Push{}) || e != api.ErrInvalid {
				t.Errorf("Impulse of %v = %v, %d", x, p, e)
			}
			if p, e := wall.Drag(x.g, x.w, l, number, number, body); p != (api.Push{}) || e != api.ErrInvalid {
				t.Errorf("Drag of %v = %v, %d", x, p, e)
			}
		}
		if s := wall.Format(x.g, x.w); s != "" {
			t.Errorf("Format of %v = %q", x, s)
		}
	}
}

// memory is a grid and a wall with spare capacity, and what was in them.
type memory struct {
	cells      []api.Cell
	kind, body []int
	argument   both
}

func spare(x both) *memory {
	m := &memory{
		cells: append(slices.Clone(x.g.Cells), api.Cell{7, 7, 7, 7}, api.Cell{8, 8, 8, 8}),
		kind:  append(slices.Clone(x.w.Kind), 77, 88),
		body:  append(slices.Clone(x.w.Body), 777, 888),
	}
	n := len(x.g.Cells)
	m.argument = both{api.Grid{Wide: x.g.Wide, High: x.g.High, Cells: m.cells[:n]}, api.Wall{Kind: m.kind[:n], Body: m.body[:n]}}
	return m
}

func (m *memory) check(t *testing.T, name string, x both) {
	t.Helper()
	want := spare(x)
	if !slices.Equal(m.cells, want.cells) || !slices.Equal(m.kind, want.kind) || !slices.Equal(m.body, want.body) {
		t.Fatalf("%s changes or keeps its arguments", name)
	}
}

func scribble(l []int) {
	for i := range l[:cap(l)] {
		l[:cap(l)][i] = -99
	}
}

// TestNewMemory writes over all of a result's memory, and looks whether the arguments have changed, their spare capacity included, or the next result.
func TestNewMemory(t *testing.T) {
	rules := []api.Rule{turn(), shift(3)}
	for _, x := range smallPlaces() {
		m := spare(x)
		for _, n := range []int{0, 1, 2, 3} {
			for _, c := range gridCalls(rules, 1, n) {
				first := done[api.Grid](t)(c.do(m.argument.g, m.argument.w))
				kept := slices.Clone(first.Cells)
				for i := range first.Cells[:cap(first.Cells)] {
					first.Cells[:cap(first.Cells)][i] = api.Cell{-1, -1, -1, -1}
				}
				m.check(t, c.name, x)
				if second := done[api.Grid](t)(c.do(m.argument.g, m.argument.w)); !slices.Equal(second.Cells, kept) {
					t.Errorf("%s gives another result after its first one has changed", c.name)
				}
			}
		}
		for body := 1; body <= api.MaxBodies; body++ {
			calls := append(putCalls(api.Point{}, api.Point{X: x.g.Wide - 1}, 2, api.WSlash, body),
				wallCall{"Mirrored", wall.Mirrored},
				wallCall{"Open", func(g api.Grid, w api.Wall) (api.Wall, api.Errno) { return wall.Open(g) }},
				wallCall{"Removed", func(g api.Grid, w api.Wall) (api.Wall, api.Errno) { return wall.Removed(g, w, body) }},
				wallCall{"Parse", func(g api.Grid, w api.Wall) (api.Wall, api.Errno) {
					w, _, e := wall.Parse(g, wall.Format(g, w))
					return w, e
				}})
			for _, c := range calls {
				first, e := c.do(m.argument.g, m.argument.w)
				kept := api.Wall{Kind: slices.Clone(first.Kind), Body: slices.Clone(first.Body)}
				scribble(first.Kind)
				if !slices.Equal(first.Body, kept.Body) {
					t.Fatalf("%s: kinds and bodies share memory", c.name)
				}
				scribble(first.Body)
				m.check(t, c.name, x)
				if second, f := c.do(m.argument.g, m.argument.w); e != f || !equalWalls(second, kept) {
					t.Errorf("%s gives another result after its first one has changed", c.name)
				}
			}
			for _, c := range listCalls(api.Point{}, body) {
				first, e := c.do(m.argument.g, m.argument.w)
				kept := slices.Clone(first)
				scribble(first)
				m.check(t, c.name, x)
				if second, f := c.do(m.argument.g, m.argument.w); e != f || !slices.Equal(second, kept) {
					t.Errorf("%s gives another result after its first one has changed", c.name)
				}
			}
			wall.Impulse(m.argument.g, m.argument.w, body)
			wall.Drag(m.argument.g, m.argument.w, rules, 0, 4, body)
			wall.Format(m.argument.g, m.argument.w)
			m.check(t, "Impulse, Drag or Format", x)
		}
	}
}

func TestRulesStay(t *testing.T) {
	g := filled(3, 2, 5, 1)
	w := scattered(g, 2, 1)
	rules := []api.Rule{turn(), shift(3), {Kind: 9}, {Kind: 9}}
	before := slices.Clone(rules)
	for _, c := range gridCalls(rules[:2], 0, 5) {
		done[api.Grid](t)(c.do(g, w))
	}
	for body := 1; body <= api.MaxBodies; body++ {
		wall.Drag(g, w, rules[:2], 0, 5, body)
	}
	if !slices.Equal(rules, before) {
		t.Errorf("rules became %v", rules)
	}
}
