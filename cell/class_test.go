package cell_test

import (
	"math"
	"testing"

	"slipstream/api"
	"slipstream/cell"
)

func TestNormAndPlace(t *testing.T) {
	if c := norm(t, some); c != (api.Cell{2, 5, 0, 7}) {
		t.Errorf("Norm(%v) = %v", some, c)
	}
	if p, n, e := cell.Place(some); p != 3 || n != 6 || e != api.OK {
		t.Errorf("Place(%v) = %d, %d, %d", some, p, n, e)
	}
	for _, c := range validCells() {
		h, v := min(c[0], c[2]), min(c[1], c[3])
		if d := norm(t, c); d != (api.Cell{c[0] - h, c[1] + h, c[2] - h, c[3] + h}) {
			t.Errorf("Norm(%v) = %v", c, d)
		}
		if p, n, e := cell.Place(c); p != h || n != h+v+1 || e != api.OK {
			t.Errorf("Place(%v) = %d, %d, %d", c, p, n, e)
		}
	}
	for _, c := range invalidCells() {
		if d, e := cell.Norm(c); d != (api.Cell{}) || e != api.ErrInvalid {
			t.Errorf("Norm(%v) = %v, %d", c, d, e)
		}
		if p, n, e := cell.Place(c); p != 0 || n != 0 || e != api.ErrInvalid {
			t.Errorf("Place(%v) = %d, %d, %d", c, p, n, e)
		}
	}
}

func TestOf(t *testing.T) {
	for _, x := range []struct {
		mass, east, north, place int
		want                     api.Cell
		e                        api.Errno
	}{
		{14, 2, -2, 3, some, api.OK},
		{14, 2, -2, 0, api.Cell{2, 5, 0, 7}, api.OK},
		{14, 2, -2, 5, api.Cell{7, 0, 5, 2}, api.OK},
		{14, -2, 2, 5, api.Cell{5, 2, 7, 0}, api.OK},
		{0, 0, 0, 0, api.Cell{}, api.OK},
		{api.MaxMass, api.MaxMass, 0, 0, api.Cell{api.MaxMass}, api.OK},
		{api.MaxMass, 0, -api.MaxMass, 0, api.Cell{0, 0, 0, api.MaxMass}, api.OK},
		{api.MaxMass, 0, 0, 500000000, api.Cell{500000000, 0, 500000000, 0}, api.OK},
		{14, 2, -2, 6, api.Cell{}, api.ErrNone},
		{14, 2, -2, math.MaxInt, api.Cell{}, api.ErrNone},
		{13, 2, -2, 0, api.Cell{}, api.ErrNone},
		{3, 2, -2, 0, api.Cell{}, api.ErrNone},
		{2, 2, -2, 0, api.Cell{}, api.ErrNone},
		{2, -3, 1, 0, api.Cell{}, api.ErrNone},
		{0, 0, 0, 1, api.Cell{}, api.ErrNone},
		{0, api.MaxMass, -api.MaxMass, 0, api.Cell{}, api.ErrNone},
		{api.MaxMass, api.MaxMass, api.MaxMass, 0, api.Cell{}, api.ErrNone},
		{14, 2, -2, -1, api.Cell{}, api.ErrRange},
		{14, 2, -2, math.MinInt, api.Cell{}, api.ErrRange},
		{-1, 0, 0, 0, api.Cell{}, api.ErrRange},
		{-2, 0, 0, 0, api.Cell{}, api.ErrRange},
		{api.MaxMass + 1, 1, 0, 0, api.Cell{}, api.ErrRange},
		{api.MaxMass + 2, 0, 0, 0, api.Cell{}, api.ErrRange},
		{0, api.MaxMass + 1, 0, 0, api.Cell{}, api.ErrRange},
		{0, -api.MaxMass - 1, 0, 0, api.Cell{}, api.ErrRange},
		{0, 0, api.MaxMass + 1, 0, api.Cell{}, api.ErrRange},
		{0, 0, -api.MaxMass - 1, 0, api.Cell{}, api.ErrRange},
		{math.MaxInt, 0, 0, 0, api.Cell{}, api.ErrRange},
		{0, math.MinInt, 0, 0, api.Cell{}, api.ErrRange},
		{0, 0, math.MinInt, 0, api.Cell{}, api.ErrRange},
		{0, math.MaxInt, math.MaxInt, 0, api.Cell{}, api.ErrRange},
	} {
		if c, e := cell.Of(x.mass, x.east, x.north, x.place); c != x.want || e != x.e {
			t.Errorf("Of(%d, %d, %d, %d) = %v, %d, want %v, %d", x.mass, x.east, x.north, x.place, c, e, x.want, x.e)
		}
	}
}

// told is what tells a class.
type told struct{ mass, east, north int }

func toldOf(c api.Cell) told {
	return told{c[0] + c[1] + c[2] + c[3], c[0] - c[2], c[1] - c[3]}
}

func TestOfIsTheCell(t *testing.T) {
	for _, c := range validCells() {
		x := toldOf(c)
		p, _, _ := cell.Place(c)
		if d, e := cell.Of(x.mass, x.east, x.north, p); d != c || e != api.OK {
			t.Errorf("Of(%v, %d) = %v, %d, want %v", x, p, d, e, c)
		}
	}
}

// TestOfHasAllCells compares Of with a search through all cells, for every class of a small mass.
func TestOfHasAllCells(t *testing.T) {
	const most = 8
	all := map[told]map[int]api.Cell{}
	for i := range (most + 1) * (most + 1) * (most + 1) * (most + 1) {
		n := most + 1
		c := api.Cell{i % n, i / n % n, i / n / n % n, i / n / n / n}
		if x := toldOf(c); x.mass <= most {
			if all[x] == nil {
				all[x] = map[int]api.Cell{}
			}
			all[x][min(c[0], c[2])] = c
		}
	}
	for mass := 0; mass <= most; mass++ {
		for east := -most - 1; east <= most+1; east++ {
			for north := -most - 1; north <= most+1; north++ {
				for place := 0; place <= most; place++ {
					want, ok := all[told{mass, east, north}][place]
					c, e := cell.Of(mass, east, north, place)
					if c != want || ok && e != api.OK || !ok && e != api.ErrNone {
						t.Errorf("Of(%d, %d, %d, %d) = %v, %d, want %v, %v", mass, east, north, place, c, e, want, ok)
					}
				}
			}
		}
	}
}

func TestSame(t *testing.T) {
	cells := validCells()
	for _, a := range cells {
		for _, b := range cells {
			want := toldOf(a) == toldOf(b)
			if cell.Same(a, b) != want {
				t.Fatalf("Same(%v, %v) is not %v", a, b, want)
			}
		}
	}
	for _, bad := range invalidCells() {
		for _, c := range []api.Cell{some, bad, {}} {
			if cell.Same(bad, c) || cell.Same(c, bad) {
				t.Errorf("%v and %v are of one class", bad, c)
			}
		}
	}
}

func TestOneNorm(t *testing.T) {
	norms := map[told]api.Cell{}
	classes := map[api.Cell]told{}
	for _, c := range validCells() {
		x, n := toldOf(c), norm(t, c)
		if d, ok := norms[x]; ok && d != n {
			t.Errorf("%v has the norms %v and %v", x, d, n)
		}
		if y, ok := classes[n]; ok && y != x {
			t.Errorf("%v is the norm of %v and of %v", n, x, y)
		}
		norms[x], classes[n] = n, x
		if p, _, e := cell.Place(n); p != 0 || e != api.OK {
			t.Errorf("Place(Norm(%v)) = %d, %d", c, p, e)
		}
	}
}

func TestPlaceTellsApart(t *testing.T) {
	type place struct {
		class told
		at    int
	}
	seen := map[place]api.Cell{}
	for _, c := range validCells() {
		p, size, e := cell.Place(c)
		if e != api.OK || p < 0 || p >= size {
			t.Errorf("Place(%v) = %d, %d, %d", c, p, size, e)
		}
		x := place{toldOf(c), p}
		if d, ok := seen[x]; ok && d != c {
			t.Errorf("%v and %v have the same place", c, d)
		}
		seen[x] = c
	}
}

func TestOneToOne(t *testing.T) {
	for _, r := range validRules() {
		from := map[api.Cell]api.Cell{}
		for _, c := range smallCells() {
			d := collided(t, c, r)
			if b, ok := from[d]; ok {
				t.Errorf("%v and %v both become %v by %v", b, c, d, r)
			}
			from[d] = c
		}
	}
}
