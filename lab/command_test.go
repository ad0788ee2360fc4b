package lab_test

import (
	"math"
	"slices"
	"testing"

	"slipstream/api"
	"slipstream/lab"
)

// refused checks that an order fails with an error, and that nothing has changed by it.
func refused(t *testing.T, l *lab.Lab, want api.Errno, word string, n ...int) {
	t.Helper()
	before := told(l)
	if e := (order{word: word, n: n}).give(l); e != want || told(l) != before {
		t.Errorf("%s %v = %d, want %d; the lab tells %s", word, n, e, want, told(l))
	}
}

// built is a lab of 3 by 2 with particles and with walls of the bodies 1 and 2.
func built(t *testing.T) *lab.Lab {
	t.Helper()
	l := made(t, lab.Setup{Wide: 3, High: 2, Rules: []api.Rule{turn()}, Nodes: 2})
	p := api.Point{X: 1, Y: 1}
	if l.Put(p, api.South, 7) != api.OK || l.Disc(p, 0, 1) != api.OK || l.Box(api.Point{}, api.Point{X: 1}, api.WSlash, 2) != api.OK || l.Step(3) != api.OK {
		t.Fatal("no lab")
	}
	return l
}

func TestErrors(t *testing.T) {
	l := built(t)
	for _, n := range []int{-1, math.MinInt, math.MaxInt, 1 << 32} {
		for _, word := range []string{"put", "take"} {
			refused(t, l, api.ErrRange, word, n, 0, 0, 1)
			refused(t, l, api.ErrRange, word, 0, n, 0, 1)
			refused(t, l, api.ErrRange, word, 0, 0, n, 1)
			refused(t, l, api.ErrRange, word, 0, 0, 0, n)
		}
		for _, word := range []string{"disc", "smooth"} {
			refused(t, l, api.ErrRange, word, n, 0, 0, 1)
			refused(t, l, api.ErrRange, word, 0, n, 0, 1)
			refused(t, l, api.ErrRange, word, 0, 0, n, 1)
			refused(t, l, api.ErrRange, word, 0, 0, 0, n)
		}
		for i := range 6 {
			box := []int{0, 0, 0, 0, 1, 1}
			box[i] = n
			refused(t, l, api.ErrRange, "box", box...)
		}
		for _, word := range []string{"clear", "step", "back"} {
			refused(t, l, api.ErrRange, word, n)
		}
	}
	for _, word := range []string{"put", "take"} {
		refused(t, l, api.ErrRange, word, 3, 0, 0, 1)
		refused(t, l, api.ErrRange, word, 0, 2, 0, 1)
		refused(t, l, api.ErrRange, word, 0, 0, 4, 1)
		refused(t, l, api.ErrRange, word, 0, 0, 0, api.MaxMass+1)
		refused(t, l, api.ErrRange, word, 3, 0, 0, api.MaxMass)
	}
	refused(t, l, api.ErrLimit, "put", 0, 0, 0, api.MaxMass-6)
	refused(t, l, api.ErrNone, "take", 2, 1, 0, 1)
	for _, word := range []string{"disc", "smooth"} {
		refused(t, l, api.ErrRange, word, 0, 0, 10001, 3)
		refused(t, l, api.ErrRange, word, 0, 0, 9, 0)
		refused(t, l, api.ErrRange, word, 1, 1, 0, 10)
		refused(t, l, api.ErrWall, word, 1, 1, 0, 2)
		refused(t, l, api.ErrWall, word, 2, 1, 10000, 3)
	}
	refused(t, l, api.ErrRange, "box", 0, 0, 2, 1, 0, 3)
	refused(t, l, api.ErrRange, "box", 0, 0, 2, 1, 4, 3)
	refused(t, l, api.ErrRange, "box", 0, 0, 3, 1, 1, 3)
	refused(t, l, api.ErrWall, "box", 0, 0, 2, 1, 1, 3)
	refused(t, l, api.ErrRange, "clear", 0)
	refused(t, l, api.ErrRange, "clear", 10)
	refused(t, l, api.ErrNone, "clear", 3)
	refused(t, l, api.ErrRange, "step", 0)
	refused(t, l, api.ErrRange, "step", 1001)
	refused(t, l, api.ErrRange, "back", 0)
	refused(t, l, api.ErrRange, "back", 1001)
	refused(t, l, api.ErrState, "back", 4)
	refused(t, l, api.ErrState, "back", 1000)
}

// TestNothingIsUndone: behind these commands no step can be undone, also behind those that change no cell.
func TestNothingIsUndone(t *testing.T) {
	for _, o := range []order{
		{word: "put", n: []int{0, 0, 2, 3}}, {word: "put", n: []int{0, 0, 0, 0}}, {word: "take", n: []int{0, 0, 0, 0}}, {word: "disc", n: []int{1, 1, 0, 1}},
		{word: "smooth", n: []int{1, 1, 0, 1}}, {word: "box", n: []int{0, 0, 1, 0, 2, 2}}, {word: "clear", n: []int{2}},
	} {
		l := built(t)
		if l.Undoable() != 3 || o.give(l) != api.OK || l.Undoable() != 0 || l.Now() != 3 {
			t.Errorf("%s: %d can be undone", o.text(), l.Undoable())
		}
		refused(t, l, api.ErrState, "back", 1)
		if l.Step(2) != api.OK || l.Undoable() != 2 {
			t.Errorf("%s, then 2 steps: %d can be undone", o.text(), l.Undoable())
		}
		refused(t, l, api.ErrState, "back", 3)
	}
}

func TestNames(t *testing.T) {
	for _, name := range goodNames() {
		l := built(t)
		if e := l.Mark(name); e != api.OK || !slices.Equal(l.Marks(), []string{name}) || l.Undoable() != 3 {
			t.Errorf("Mark(%q) = %d", name, e)
		}
		if e := l.Go(name); e != api.OK {
			t.Errorf("Go(%q) = %d", name, e)
		}
	}
	l := built(t)
	if e := l.Mark("a"); e != api.OK {
		t.Fatal(e)
	}
	before := told(l)
	for _, name := range append(badNames(), "", " ", "a b", "a\n", "\n") {
		if e := l.Mark(name); e != api.ErrInvalid || told(l) != before {
			t.Errorf("Mark(%q) = %d", name, e)
		}
		if e := l.Go(name); e != api.ErrName || told(l) != before {
			t.Errorf("Go(%q) = %d", name, e)
		}
	}
	for _, name := range []string{"b", "aa", "a_"} {
		if e := l.Go(name); e != api.ErrName || told(l) != before {
			t.Errorf("Go(%q) = %d", name, e)
		}
	}
}

func TestMostMarks(t *testing.T) {
	l := built(t)
	names := goodNames()[:api.MaxMarks]
	for i, name := range names {
		if e := l.Mark(name); e != api.OK || len(l.Marks()) != i+1 {
			t.Errorf("Mark(%q) = %d", name, e)
		}
	}
	slices.Sort(names)
	if !slices.Equal(l.Marks(), names) {
		t.Errorf("Marks = %q", l.Marks())
	}
	if l.Mark("x") != api.ErrLimit || l.Mark("X") != api.ErrInvalid || l.Go("x") != api.ErrName || !slices.Equal(l.Marks(), names) {
		t.Errorf("Marks = %q", l.Marks())
	}
	// One that is there is written over.
	if l.Step(1) != api.OK || l.Mark("b") != api.OK || l.Back(1) != api.OK || l.Go("b") != api.OK || l.Now() != 4 || l.Go("a") != api.OK || l.Now() != 3 || !slices.Equal(l.Marks(), names) {
		t.Errorf("Marks = %q", l.Marks())
	}
}

// TestRules: all steps are by the lab's rules, with the numbers from the lab's step on.
func TestRules(t *testing.T) {
	l := made(t, lab.Setup{Wide: 1, High: 1, Rules: []api.Rule{none(), turn(), none()}, Nodes: 1})
	if l.Put(api.Point{}, api.East, 2) != api.OK || l.Put(api.Point{}, api.West, 1) != api.OK {
		t.Fatal("no lab")
	}
	first, second := api.Cell{2, 0, 1, 0}, api.Cell{1, 1, 0, 1}
	for i, want := range []api.Cell{first, second, second, second, first, first, first, second} {
		if l.Step(1) != api.OK || l.Grid().Cells[0] != want {
			t.Errorf("after the step %d: %v", i, l.Grid())
		}
	}
	for i, want := range []api.Cell{first, first, first, second, second, second, first, first} {
		if l.Back(1) != api.OK || l.Grid().Cells[0] != want {
			t.Errorf("before the step %d: %v", 7-i, l.Grid())
		}
	}
	// A mark has its own number of a step.
	if l.Step(1) != api.OK || l.Mark("a") != api.OK || l.Step(3) != api.OK || l.Go("a") != api.OK || l.Step(1) != api.OK || l.Grid().Cells[0] != second {
		t.Errorf("after a mark: %v", l.Grid())
	}
}
