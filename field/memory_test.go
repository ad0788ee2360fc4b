package field_test

import (
	"fmt"
	"math"
	"slices"
	"testing"

	"slipstream/api"
	"slipstream/field"
)

// arguments are those of all calls.
type arguments struct {
	g          api.Grid
	a, b       api.Point
	wide, high int
	axis, line int
	fractions  []api.Ratio
	cells      []int
}

// right returns arguments with which every call returns something.
func right() arguments {
	g := drawn(".v.>.<", ">.<^v.", "^v.<..", ".^^><v")
	return arguments{g: g, a: at(1, 0), b: at(3, 2), wide: 3, high: 2, axis: 1, line: 3, fractions: []api.Ratio{{N: 1, D: 2}, {N: -3, D: 4}}, cells: []int{2, 8}}
}

// outcome is what a call returns; scribble writes over its memory.
type outcome struct {
	name     string
	e        api.Errno
	zero     bool
	text     string
	scribble func()
}

// spoil writes over a list and what is behind it in its memory.
func spoil[T any](l []T, junk T) {
	for i := range l[:cap(l)] {
		l[:cap(l)][i] = junk
	}
}

// outcomes calls everything.
func outcomes(x arguments) []outcome {
	var l []outcome
	add := func(name string, e api.Errno, zero bool, results ...any) {
		l = append(l, outcome{name, e, zero, fmt.Sprint(append(results, e)...), func() {}})
	}
	addList := func(name string, e api.Errno, list []int) {
		add(name, e, len(list) == 0, list)
		l[len(l)-1].scribble = func() { spoil(list, -9) }
	}
	n, e := field.Cells(x.g, x.a, x.b)
	add("Cells", e, n == 0, n)
	r, e := field.Density(x.g, x.a, x.b)
	add("Density", e, r == api.Ratio{}, r)
	r, s, e := field.Velocity(x.g, x.a, x.b)
	add("Velocity", e, r == api.Ratio{} && s == api.Ratio{}, r, s)
	p, e := field.Densest(x.g, x.wide, x.high)
	add("Densest", e, p == api.Point{}, p)
	list, e := field.Profile(x.g, x.axis)
	addList("Profile", e, list)
	n, e = field.Circulation(x.g, x.a, x.b)
	add("Circulation", e, n == 0, n)
	p, n, e = field.Vortex(x.g, x.high)
	add("Vortex", e, p == api.Point{} && n == 0, p, n)
	n, e = field.Main(x.g, x.a)
	add("Main", e, n == 0, n)
	path, came, e := field.Path(x.g, x.a)
	add("Path", e, len(path) == 0 && !came, path, came)
	l[len(l)-1].scribble = func() { spoil(path, at(-9, -9)) }
	list, e = field.Sinks(x.g)
	addList("Sinks", e, list)
	rings, e := field.Rings(x.g)
	add("Rings", e, len(rings) == 0, rings)
	l[len(l)-1].scribble = func() {
		for _, r := range rings {
			spoil(r, -9)
		}
		spoil(rings, []int{-9})
	}
	n, m, e := field.Crossing(x.g, x.axis, x.line)
	add("Crossing", e, n == 0 && m == 0, n, m)
	n, m, e = field.Parity(x.g)
	add("Parity", e, n == 0 && m == 0, n, m)
	list, e = field.Rows(x.g)
	addList("Rows", e, list)
	r, e = field.Spread(x.g)
	add("Spread", e, r == api.Ratio{}, r)
	list, e = field.Table(x.g, x.wide, x.high)
	addList("Table", e, list)
	r, e = field.Weighted(x.fractions, x.cells)
	add("Weighted", e, r == api.Ratio{}, r)
	add("Picture", api.OK, false, field.Picture(x.g))
	return l
}

func TestRight(t *testing.T) {
	for _, o := range outcomes(right()) {
		if o.e != api.OK || o.zero {
			t.Errorf("%s = %s", o.name, o.text)
		}
	}
}

// TestNewMemory writes over all results, and looks whether an argument has changed, its spare capacity included, or the next results.
func TestNewMemory(t *testing.T) {
	x := right()
	cells := append(slices.Clone(x.g.Cells), api.Cell{7}, api.Cell{8})
	fractions := append(slices.Clone(x.fractions), api.Ratio{N: 7, D: 7})
	counts := append(slices.Clone(x.cells), 8, 8)
	beforeCells, beforeFractions, beforeCounts := slices.Clone(cells), slices.Clone(fractions), slices.Clone(counts)
	x.g.Cells, x.fractions, x.cells = cells[:len(x.g.Cells)], fractions[:2], counts[:2]
	first := outcomes(x)
	for _, o := range first {
		o.scribble()
	}
	if !slices.Equal(cells, beforeCells) || !slices.Equal(fractions, beforeFractions) || !slices.Equal(counts, beforeCounts) {
		t.Error("arguments have changed")
	}
	for i, o := range outcomes(x) {
		if o.text != first[i].text {
			t.Errorf("%s gives %s, and then %s", o.name, first[i].text, o.text)
		}
	}
}

// TestResultsStay although the arguments change after the calls.
func TestResultsStay(t *testing.T) {
	x := right()
	path, _, _ := field.Path(x.g, x.a)
	rings, _ := field.Rings(x.g)
	table, _ := field.Table(x.g, x.wide, x.high)
	before := fmt.Sprint(path, rings, table)
	spoil(x.g.Cells, api.Cell{9, 9, 9, 9})
	if after := fmt.Sprint(path, rings, table); after != before {
		t.Errorf("%s became %s", before, after)
	}
}

// TestRingsShareNothing writes over one ring after the other, with all that is behind it in its memory.
func TestRingsShareNothing(t *testing.T) {
	rings := done[[][]int](t)(field.Rings(drawn("><><", "<<<<", ">>>>", "^><v")))
	want := [][]int{{1, 2}, {4, 5, 6, 7}, {8, 11, 10, 9}, {12, 13}, {14, 15}}
	if !sameLists(rings, want) {
		t.Fatalf("Rings = %v", rings)
	}
	for i, r := range rings {
		spoil(r, -9)
		if !sameLists(rings[i+1:], want[i+1:]) {
			t.Errorf("the ring %d shares memory with another one", i)
		}
	}
}

// TestNilIsEmpty: nil and empty lists are the same.
func TestNilIsEmpty(t *testing.T) {
	x, y := right(), right()
	x.g.Cells, x.fractions, x.cells = nil, nil, nil
	y.g.Cells, y.fractions, y.cells = []api.Cell{}, []api.Ratio{}, []int{}
	are := outcomes(y)
	for i, o := range outcomes(x) {
		if o.text != are[i].text {
			t.Errorf("%s of nil gives %s, of an empty list %s", o.name, o.text, are[i].text)
		}
	}
}

// TestWild gives calls numbers beyond all ranges, several at once: they all return, and with an error nothing else.
func TestWild(t *testing.T) {
	next := thrown(21)
	numbers := []int{0, 1, 2, 3, 4, 5, 6, 7, -1, 64, 65, 1024, 1025, api.MaxMass, api.MaxMass + 1, -api.MaxMass, -api.MaxMass - 1, 1 << 62, math.MaxInt, math.MinInt}
	wild := func() int { return numbers[next(len(numbers))] }
	for range 20000 {
		x := right()
		for range 1 + next(3) {
			switch next(8) {
			case 0:
				x.g.Wide, x.g.High = wild(), wild()
			case 1:
				x.g.Cells[next(len(x.g.Cells))][next(4)] = wild()
			case 2:
				x.a = at(wild(), wild())
			case 3:
				x.b = at(wild(), wild())
			case 4:
				x.wide, x.high = wild(), wild()
			case 5:
				x.axis, x.line = wild(), wild()
			case 6:
				x.fractions[next(2)] = api.Ratio{N: wild(), D: wild()}
			case 7:
				x.cells[next(2)] = wild()
			}
		}
		for _, o := range outcomes(x) {
			if o.e < api.OK || o.e > api.ErrCommand || o.e != api.OK && !o.zero {
				t.Fatalf("%s of %v gives %s", o.name, x, o.text)
			}
		}
	}
}
