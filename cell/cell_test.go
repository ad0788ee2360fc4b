package cell_test

import (
	"testing"

	"slipstream/api"
	"slipstream/cell"
)

func TestValid(t *testing.T) {
	for _, c := range validCells() {
		if !cell.Valid(c) {
			t.Errorf("%v is not valid", c)
		}
	}
	for _, c := range invalidCells() {
		if cell.Valid(c) {
			t.Errorf("%v is valid", c)
		}
	}
}

func TestMassMomentumPairs(t *testing.T) {
	for _, c := range validCells() {
		if n, e := cell.Mass(c); n != c[0]+c[1]+c[2]+c[3] || e != api.OK {
			t.Errorf("Mass(%v) = %d, %d", c, n, e)
		}
		if x, y, e := cell.Momentum(c); x != c[0]-c[2] || y != c[1]-c[3] || e != api.OK {
			t.Errorf("Momentum(%v) = %d, %d, %d", c, x, y, e)
		}
		if h, v, e := cell.Pairs(c); h != min(c[0], c[2]) || v != min(c[1], c[3]) || e != api.OK {
			t.Errorf("Pairs(%v) = %d, %d, %d", c, h, v, e)
		}
	}
	for _, c := range invalidCells() {
		if n, e := cell.Mass(c); n != 0 || e != api.ErrInvalid {
			t.Errorf("Mass(%v) = %d, %d", c, n, e)
		}
		if x, y, e := cell.Momentum(c); x != 0 || y != 0 || e != api.ErrInvalid {
			t.Errorf("Momentum(%v) = %d, %d, %d", c, x, y, e)
		}
		if h, v, e := cell.Pairs(c); h != 0 || v != 0 || e != api.ErrInvalid {
			t.Errorf("Pairs(%v) = %d, %d, %d", c, h, v, e)
		}
	}
}

func TestCollideExamples(t *testing.T) {
	for _, x := range []struct {
		c    api.Cell
		r    api.Rule
		want api.Cell
	}{
		{some, none(), some},
		{some, turn(), api.Cell{4, 3, 2, 5}},
		{some, shift(4), api.Cell{3, 4, 1, 6}},
		{some, shift(-4), api.Cell{7, 0, 5, 2}},
		{some, shift(6), some},
		{some, shift(2), api.Cell{7, 0, 5, 2}},
		{some, shift(3), api.Cell{2, 5, 0, 7}},
		{some, shift(-3), api.Cell{2, 5, 0, 7}},
		{some, shift(api.MaxMass), api.Cell{3, 4, 1, 6}},
		{some, shift(-api.MaxMass), api.Cell{7, 0, 5, 2}},
		{api.Cell{1, 0, 1, 0}, turn(), api.Cell{0, 1, 0, 1}},
		{api.Cell{0, 1, 0, 1}, turn(), api.Cell{1, 0, 1, 0}},
		{api.Cell{500000000, 0, 500000000, 0}, turn(), api.Cell{0, 500000000, 0, 500000000}},
		{api.Cell{500000000, 0, 500000000, 0}, shift(1), api.Cell{0, 500000000, 0, 500000000}},
		{api.Cell{500000000, 0, 500000000, 0}, shift(api.MaxMass), api.Cell{499999998, 2, 499999998, 2}},
	} {
		if d, e := cell.Collide(x.c, x.r); d != x.want || e != api.OK {
			t.Errorf("Collide(%v, %v) = %v, %d, want %v", x.c, x.r, d, e, x.want)
		}
		if c, e := cell.Undo(x.want, x.r); c != x.c || e != api.OK {
			t.Errorf("Undo(%v, %v) = %v, %d, want %v", x.want, x.r, c, e, x.c)
		}
	}
}

func TestCollideAsWritten(t *testing.T) {
	for _, c := range validCells() {
		for _, r := range validRules() {
			if d := collided(t, c, r); d != collide(c, r) {
				t.Errorf("Collide(%v, %v) = %v, want %v", c, r, d, collide(c, r))
			}
		}
	}
}

func TestCollideKeepsMassAndMomentum(t *testing.T) {
	for _, c := range validCells() {
		for _, r := range validRules() {
			for _, d := range []api.Cell{collided(t, c, r), undone(t, c, r)} {
				if d[0]+d[1]+d[2]+d[3] != c[0]+c[1]+c[2]+c[3] || d[0]-d[2] != c[0]-c[2] || d[1]-d[3] != c[1]-c[3] {
					t.Errorf("%v becomes %v by %v: mass or momentum is another one", c, d, r)
				}
				if min(d[0], d[1], d[2], d[3]) < 0 {
					t.Errorf("%v becomes %v by %v", c, d, r)
				}
			}
		}
	}
}

func TestUndo(t *testing.T) {
	for _, c := range validCells() {
		for _, r := range validRules() {
			if d := undone(t, collided(t, c, r), r); d != c {
				t.Errorf("%v, collided and undone by %v, is %v", c, r, d)
			}
			if d := collided(t, undone(t, c, r), r); d != c {
				t.Errorf("%v, undone and collided by %v, is %v", c, r, d)
			}
			back, e := cell.Inverse(r)
			if e != api.OK {
				t.Fatalf("Inverse(%v): error %d", r, e)
			}
			if undone(t, c, r) != collided(t, c, back) {
				t.Errorf("Undo(%v, %v) is not Collide by %v", c, r, back)
			}
		}
	}
}

func TestAloneInClass(t *testing.T) {
	for _, c := range []api.Cell{{}, {9}, {0, 3, 2, 0}, {api.MaxMass}, {0, 0, 7, 8}} {
		for _, r := range validRules() {
			if d := collided(t, c, r); d != c {
				t.Errorf("Collide(%v, %v) = %v", c, r, d)
			}
			if n, e := cell.Order(c, r); n != 1 || e != api.OK {
				t.Errorf("Order(%v, %v) = %d, %d", c, r, n, e)
			}
		}
	}
}

func TestOrder(t *testing.T) {
	for _, x := range []struct {
		c    api.Cell
		r    api.Rule
		want int
	}{
		{some, none(), 1},
		{some, turn(), 2},
		{api.Cell{1, 1, 1, 1}, turn(), 1},
		{api.Cell{2, 7, 9, 2}, turn(), 1},
		{some, shift(0), 1},
		{some, shift(1), 6},
		{some, shift(-1), 6},
		{some, shift(4), 3},
		{some, shift(-4), 3},
		{some, shift(3), 2},
		{some, shift(12), 1},
		{some, shift(-api.MaxMass), 3},
		{api.Cell{500000000, 0, 500000000, 0}, shift(1), 500000001},
		{api.Cell{250000000, 250000000, 250000000, 250000000}, shift(-1), 500000001},
		{api.Cell{499999999, 0, 499999999, 0}, shift(api.MaxMass), 1},
		{api.Cell{499999999, 0, 499999999, 0}, shift(250000000), 2},
	} {
		if n, e := cell.Order(x.c, x.r); n != x.want || e != api.OK {
			t.Errorf("Order(%v, %v) = %d, %d, want %d", x.c, x.r, n, e, x.want)
		}
	}
}

func TestOrderIsLeast(t *testing.T) {
	for _, c := range smallCells() {
		for _, r := range validRules() {
			n, e := cell.Order(c, r)
			if e != api.OK {
				t.Fatalf("Order(%v, %v): error %d", c, r, e)
			}
			d := collided(t, c, r)
			times := 1
			for d != c && times <= 9 {
				d = collided(t, d, r)
				times++
			}
			if n != times {
				t.Errorf("Order(%v, %v) = %d, but it is back after %d", c, r, n, times)
			}
		}
	}
}

func TestCollideErrors(t *testing.T) {
	check := func(c api.Cell, r api.Rule) {
		if d, e := cell.Collide(c, r); d != (api.Cell{}) || e != api.ErrInvalid {
			t.Errorf("Collide(%v, %v) = %v, %d", c, r, d, e)
		}
		if d, e := cell.Undo(c, r); d != (api.Cell{}) || e != api.ErrInvalid {
			t.Errorf("Undo(%v, %v) = %v, %d", c, r, d, e)
		}
		if n, e := cell.Order(c, r); n != 0 || e != api.ErrInvalid {
			t.Errorf("Order(%v, %v) = %d, %d", c, r, n, e)
		}
	}
	for _, c := range invalidCells() {
		for _, r := range append(validRules(), invalidRules()...) {
			check(c, r)
		}
	}
	for _, c := range validCells() {
		for _, r := range invalidRules() {
			check(c, r)
		}
	}
}
