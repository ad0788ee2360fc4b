package cell_test

import (
	"math"
	"testing"

	"slipstream/api"
	"slipstream/cell"
)

func TestTurned(t *testing.T) {
	for _, x := range []struct {
		quarters int
		want     api.Cell
	}{
		{0, api.Cell{5, 2, 3, 4}},
		{1, api.Cell{4, 5, 2, 3}},
		{2, api.Cell{3, 4, 5, 2}},
		{3, api.Cell{2, 3, 4, 5}},
		{4, api.Cell{5, 2, 3, 4}},
		{7, api.Cell{2, 3, 4, 5}},
		{-1, api.Cell{2, 3, 4, 5}},
		{-2, api.Cell{3, 4, 5, 2}},
		{-3, api.Cell{4, 5, 2, 3}},
		{-4, api.Cell{5, 2, 3, 4}},
		{math.MaxInt, api.Cell{2, 3, 4, 5}},
		{math.MaxInt - 1, api.Cell{3, 4, 5, 2}},
		{math.MinInt, api.Cell{5, 2, 3, 4}},
		{math.MinInt + 1, api.Cell{4, 5, 2, 3}},
	} {
		if c, e := cell.Turned(some, x.quarters); c != x.want || e != api.OK {
			t.Errorf("Turned(%v, %d) = %v, %d, want %v", some, x.quarters, c, e, x.want)
		}
	}
	if c := turned(t, api.Cell{1}, 1); c != (api.Cell{0, 1}) {
		t.Errorf("east turned by a quarter is %v", c)
	}
}

func TestMirrored(t *testing.T) {
	for _, c := range validCells() {
		if d := mirrored(t, c); d != (api.Cell{c[2], c[1], c[0], c[3]}) {
			t.Errorf("Mirrored(%v) = %v", c, d)
		}
	}
}

func TestMovedErrors(t *testing.T) {
	for _, c := range invalidCells() {
		for _, quarters := range []int{0, 1, -7} {
			if d, e := cell.Turned(c, quarters); d != (api.Cell{}) || e != api.ErrInvalid {
				t.Errorf("Turned(%v, %d) = %v, %d", c, quarters, d, e)
			}
		}
		if d, e := cell.Mirrored(c); d != (api.Cell{}) || e != api.ErrInvalid {
			t.Errorf("Mirrored(%v) = %v, %d", c, d, e)
		}
		for _, b := range []api.Cell{{}, some, {api.MaxMass}, c} {
			if d, e := cell.Added(c, b); d != (api.Cell{}) || e != api.ErrInvalid {
				t.Errorf("Added(%v, %v) = %v, %d", c, b, d, e)
			}
			if d, e := cell.Added(b, c); d != (api.Cell{}) || e != api.ErrInvalid {
				t.Errorf("Added(%v, %v) = %v, %d", b, c, d, e)
			}
		}
		if p, e := cell.Split(c); p != [4]api.Cell{} || e != api.ErrInvalid {
			t.Errorf("Split(%v) = %v, %d", c, p, e)
		}
	}
}

func TestRulesMayBeExchanged(t *testing.T) {
	for _, c := range validCells() {
		for quarters := range 4 {
			a := collided(t, turned(t, c, quarters), turn())
			if b := turned(t, collided(t, c, turn()), quarters); a != b {
				t.Errorf("%v turned by %d: turning gives %v and %v", c, quarters, a, b)
			}
		}
		for _, r := range validRules() {
			a := collided(t, mirrored(t, c), r)
			if b := mirrored(t, collided(t, c, r)); a != b {
				t.Errorf("%v mirrored: %v gives %v and %v", c, r, a, b)
			}
		}
	}
}

func TestAdded(t *testing.T) {
	for _, a := range smallCells() {
		want := api.Cell{a[0] + 5, a[1] + 2, a[2] + 3, a[3] + 4}
		if c, e := cell.Added(a, some); c != want || e != api.OK {
			t.Errorf("Added(%v, %v) = %v, %d", a, some, c, e)
		}
		if c, e := cell.Added(some, a); c != want || e != api.OK {
			t.Errorf("Added(%v, %v) = %v, %d", some, a, c, e)
		}
	}
	for _, x := range []struct {
		a, b, want api.Cell
		e          api.Errno
	}{
		{api.Cell{999999986}, some, api.Cell{999999991, 2, 3, 4}, api.OK},
		{api.Cell{999999987}, some, api.Cell{}, api.ErrLimit},
		{api.Cell{0, 999999987}, some, api.Cell{}, api.ErrLimit},
		{api.Cell{api.MaxMass}, api.Cell{}, api.Cell{api.MaxMass}, api.OK},
		{api.Cell{api.MaxMass}, api.Cell{0, 0, 0, 1}, api.Cell{}, api.ErrLimit},
		{api.Cell{api.MaxMass}, api.Cell{api.MaxMass}, api.Cell{}, api.ErrLimit},
		{api.Cell{0, 0, api.MaxMass}, api.Cell{api.MaxMass}, api.Cell{}, api.ErrLimit},
	} {
		if c, e := cell.Added(x.a, x.b); c != x.want || e != x.e {
			t.Errorf("Added(%v, %v) = %v, %d, want %v, %d", x.a, x.b, c, e, x.want, x.e)
		}
	}
}

func TestSplit(t *testing.T) {
	for _, x := range []struct {
		c    api.Cell
		want [4]api.Cell
	}{
		{api.Cell{}, [4]api.Cell{}},
		{api.Cell{7, 4, 1, 0}, [4]api.Cell{{2, 1, 1, 0}, {2, 1, 0, 0}, {2, 1, 0, 0}, {1, 1, 0, 0}}},
		{api.Cell{2, 3, 6, 13}, [4]api.Cell{{1, 1, 2, 4}, {1, 1, 2, 3}, {0, 1, 1, 3}, {0, 0, 1, 3}}},
		{api.Cell{api.MaxMass - 1, 1, 0, 0}, [4]api.Cell{{250000000, 1}, {250000000}, {250000000}, {249999999}}},
	} {
		if p, e := cell.Split(x.c); p != x.want || e != api.OK {
			t.Errorf("Split(%v) = %v, %d, want %v", x.c, p, e, x.want)
		}
	}
}

func TestPartsAddUp(t *testing.T) {
	for _, c := range validCells() {
		p, e := cell.Split(c)
		if e != api.OK {
			t.Fatalf("Split(%v): error %d", c, e)
		}
		var all api.Cell
		for _, part := range p {
			if all, e = cell.Added(all, part); e != api.OK {
				t.Fatalf("Added: error %d", e)
			}
		}
		if all != c {
			t.Errorf("the parts of %v add up to %v", c, all)
		}
		for dir := range c {
			for i := 1; i < len(p); i++ {
				if p[i][dir] > p[i-1][dir] || p[0][dir] > p[i][dir]+1 {
					t.Errorf("Split(%v) = %v", c, p)
				}
			}
		}
	}
}
