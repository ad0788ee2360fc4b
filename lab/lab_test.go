package lab_test

import (
	"fmt"
	"slices"
	"testing"

	"slipstream/api"
	"slipstream/grid"
	"slipstream/lab"
)

func TestSetups(t *testing.T) {
	good := append(setups(), lab.Setup{Wide: 64, High: 16, Rules: make([]api.Rule, 8), Nodes: 8}, lab.Setup{Wide: 1, High: 64, Rules: []api.Rule{shift(-api.MaxMass)}, Nodes: 1})
	for _, x := range good {
		if l, e := lab.New(x); !lab.ValidSetup(x) || l == nil || e != api.OK {
			t.Errorf("New(%v) = %v, %d", x, l, e)
		}
	}
	for _, x := range badSetups() {
		if l, e := lab.New(x); lab.ValidSetup(x) || l != nil || e != api.ErrInvalid {
			t.Errorf("New(%v) = %v, %d", x, l, e)
		}
	}
}

func TestNew(t *testing.T) {
	for _, x := range setups() {
		l := made(t, x)
		if got, want := told(l), newModel(x).told(); got != want {
			t.Errorf("a new lab tells %swant %s", got, want)
		}
	}
}

// TestExample is the chapter's one.
func TestExample(t *testing.T) {
	l := made(t, chapter())
	if e := l.Put(api.Point{}, api.East, 5); e != api.OK {
		t.Errorf("Put: %d", e)
	}
	if e := l.Step(3); e != api.OK || l.Now() != 3 || l.Undoable() != 3 {
		t.Errorf("Step: %d", e)
	}
	if g := l.Grid(); !slices.Equal(g.Cells, []api.Cell{{}, {}, {}, {5}}) {
		t.Errorf("Grid = %v", g)
	}
	if e := l.Back(4); e != api.ErrState {
		t.Errorf("Back(4): %d", e)
	}
	if e := l.Back(3); e != api.OK || l.Now() != 0 || l.Undoable() != 0 {
		t.Errorf("Back(3): %d", e)
	}
	if g := l.Grid(); !slices.Equal(g.Cells, []api.Cell{{5}, {}, {}, {}}) {
		t.Errorf("Grid = %v", g)
	}
}

// TestAsWritten gives many orders to labs and models; a failing one must change nothing.
func TestAsWritten(t *testing.T) {
	failed, succeeded := map[string]int{}, map[string]int{}
	for seed, x := range slices.Repeat(setups(), 5) {
		l, m, next := made(t, x), newModel(x), thrown(uint64(seed))
		before := told(l)
		for range 200 {
			o := someOrder(x, next)
			if next(3) == 0 {
				o = spoilt(o, next)
			}
			got, want := o.give(l), m.obey(o)
			if got != want {
				t.Fatalf("%s = %d, want %d", o.text(), got, want)
			}
			tells := told(l)
			if tells != m.told() {
				t.Fatalf("%s, error %d: the lab tells %swant %s", o.text(), got, tells, m.told())
			}
			if got == api.OK {
				succeeded[o.word]++
			} else {
				failed[fmt.Sprint(o.word, " ", int(got))]++
			}
			if got != api.OK && tells != before {
				t.Fatalf("%s fails, and the lab tells %sbefore %s", o.text(), tells, before)
			}
			before = tells
		}
	}
	for _, word := range []string{"put", "take", "disc", "smooth", "box", "clear", "step", "back", "mark", "go"} {
		if succeeded[word] < 20 {
			t.Errorf("%s succeeded %d times", word, succeeded[word])
		}
	}
	for _, what := range []string{"put 7", "put 4", "take 7", "take 8", "disc 7", "disc 11", "smooth 7", "smooth 11", "box 7", "box 11", "clear 7", "clear 8", "step 7", "back 7", "back 10", "mark 1", "go 5"} {
		if failed[what] == 0 {
			t.Errorf("no command with its error failed as %s", what)
		}
	}
}

// TestPutLessTaken: the grid's mass is the account's, and its momentum that of the account and of all bodies.
func TestPutLessTaken(t *testing.T) {
	for seed, x := range slices.Repeat(setups(), 4) {
		l, next := made(t, x), thrown(uint64(seed+100))
		for range 300 {
			someOrder(x, next).give(l)
			mass, east, north := l.Account()
			for body := 1; body <= api.MaxBodies; body++ {
				east += l.Given(body).East
				north += l.Given(body).North
			}
			m, _ := grid.Mass(l.Grid())
			e, n, _ := grid.Momentum(l.Grid())
			if m != mass || e != east || n != north {
				t.Fatalf("the grid has %d, %d, %d, the account and the bodies %d, %d, %d", m, e, n, mass, east, north)
			}
		}
	}
}

// TestUndone: Step and then Back leaves all but the book.
func TestUndone(t *testing.T) {
	for seed, x := range slices.Repeat(setups(), 3) {
		l, _ := busy(t, x, 40, uint64(seed+200))
		l.Mark("a")
		for _, n := range []int{1, 2, 7, 1000} {
			before, lines := toldButBook(l), len(l.Lines())
			if l.Step(n) != api.OK || l.Back(n) != api.OK {
				t.Fatal("no step")
			}
			if toldButBook(l) != before || len(l.Lines()) != lines+2 {
				t.Fatalf("%d steps are undone, and the lab tells %sbefore %s", n, told(l), before)
			}
			// In parts, with marks in between, which can be undone as well.
			if l.Step(n) != api.OK || l.Step(3) != api.OK || l.Mark("a") != api.OK || l.Back(2) != api.OK || l.Back(n) != api.OK || l.Back(1) != api.OK {
				t.Fatal("no step")
			}
			if toldButBook(l) != before {
				t.Fatalf("%d steps and 3 are undone, and the lab tells %sbefore %s", n, told(l), before)
			}
		}
	}
}

// TestMarkAndGo: Mark and then Go leaves all but the book and the marks, whatever was done between.
func TestMarkAndGo(t *testing.T) {
	for seed, x := range slices.Repeat(setups(), 5) {
		l, _ := busy(t, x, 50, uint64(seed+300))
		before := toldButMarks(l)
		if e := l.Mark("c"); e != api.OK {
			t.Fatal(e)
		}
		next := thrown(uint64(seed))
		for range 60 {
			if o := someOrder(x, next); o.word != "mark" {
				o.give(l)
			}
		}
		for _, name := range []string{"b", "zz", "c9"} {
			l.Mark(name)
		}
		marks := l.Marks()
		if e := l.Go("c"); e != api.OK || toldButMarks(l) != before || !slices.Equal(l.Marks(), marks) {
			t.Fatalf("Go, error %d, and the lab tells %sbefore %s", e, told(l), before)
		}
		// What can be undone is that of the mark, and what is undone does not change the mark.
		for l.Undoable() > 0 {
			if e := l.Back(1); e != api.OK {
				t.Fatal(e)
			}
		}
		if e := l.Go("c"); e != api.OK || toldButMarks(l) != before {
			t.Fatalf("Go again, error %d, and the lab tells %sbefore %s", e, told(l), before)
		}
	}
}

// TestGivenStays: what a body gave that is removed is still told, and undone with the steps in which it gave it.
func TestGivenStays(t *testing.T) {
	l := made(t, chapter())
	p, wallAt := api.Point{X: 1}, api.Point{X: 2}
	if l.Put(p, api.East, 5) != api.OK || l.Box(wallAt, wallAt, api.WBack, 4) != api.OK || l.Step(2) != api.OK {
		t.Fatal("no lab")
	}
	if l.Given(4) != (api.Push{East: -10}) || l.Mark("hit") != api.OK || l.Clear(4) != api.OK || l.Given(4) != (api.Push{East: -10}) {
		t.Errorf("Given = %v", l.Given(4))
	}
	if l.Back(1) != api.ErrState || l.Step(5) != api.OK || l.Back(5) != api.OK || l.Given(4) != (api.Push{East: -10}) {
		t.Errorf("Given = %v", l.Given(4))
	}
	if l.Go("hit") != api.OK || l.Undoable() != 2 || l.Back(1) != api.OK || l.Given(4) != (api.Push{}) || l.Now() != 1 {
		t.Errorf("Given = %v", l.Given(4))
	}
	for _, body := range []int{0, -1, 10, 1 << 62, -1 << 63} {
		if l.Given(body) != (api.Push{}) {
			t.Errorf("Given of the body %d = %v", body, l.Given(body))
		}
	}
}

// TestLastStep goes to the greatest number of a step.
func TestLastStep(t *testing.T) {
	x := lab.Setup{Wide: 2, High: 1, Rules: []api.Rule{turn(), none(), shift(1)}, Nodes: 1}
	l := made(t, x)
	l.Put(api.Point{}, api.East, 1)
	for i := range 1000 {
		if e := l.Step(1000); e != api.OK || l.Now() != 1000*(i+1) {
			t.Fatalf("Step: %d", e)
		}
	}
	if l.Step(1) != api.ErrLimit || l.Step(1000) != api.ErrLimit || l.Step(1001) != api.ErrRange || l.Now() != api.MaxStep || l.Undoable() != api.MaxStep {
		t.Error("Step beyond the last one")
	}
	if l.Back(2) != api.OK || l.Step(3) != api.ErrLimit || l.Step(2) != api.OK || l.Step(1) != api.ErrLimit {
		t.Error("Step to the last one")
	}
	if c, e := lab.Read(x, l.Bytes()); e != api.OK || !lab.Same(c, l) {
		t.Errorf("Read: %d", e)
	}
}

func TestSame(t *testing.T) {
	for seed, x := range setups() {
		l, _ := busy(t, x, 60, uint64(seed))
		again, _ := busy(t, x, 60, uint64(seed))
		if !lab.Same(l, l) || !lab.Same(l, again) || !lab.Same(again, l) {
			t.Error("the same labs are not")
		}
		if lab.Same(nil, l) || lab.Same(l, nil) || lab.Same(nil, nil) {
			t.Error("a nil lab is the same")
		}
		if l.Step(1) != api.OK || lab.Same(l, again) || lab.Same(again, l) {
			t.Error("after a step a lab is the same")
		}
		if again.Step(1) != api.OK || !lab.Same(l, again) {
			t.Error("after a step of both they are not the same")
		}
		if l.Back(1) != api.OK || again.Back(1) != api.OK || l.Mark("same") != api.OK || lab.Same(l, again) {
			t.Error("after a mark a lab is the same")
		}
	}
	for i, x := range append(setups(), lab.Setup{Wide: 1, High: 4, Rules: []api.Rule{none()}, Nodes: 2}, lab.Setup{Wide: 4, High: 1, Rules: []api.Rule{none(), none()}, Nodes: 2}, lab.Setup{Wide: 4, High: 1, Rules: []api.Rule{none()}, Nodes: 3}) {
		if lab.Same(made(t, x), made(t, chapter())) != (i == 0) {
			t.Errorf("Same of the setup %v", x)
		}
	}
}
