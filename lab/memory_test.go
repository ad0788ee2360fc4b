package lab_test

import (
	"math"
	"slices"
	"testing"

	"slipstream/api"
	"slipstream/lab"
)

// spoil writes over a list and what is behind it in its memory.
func spoil[T any](l []T, junk T) {
	for i := range l[:cap(l)] {
		l[:cap(l)][i] = junk
	}
}

// TestNewMemory writes over all that a lab tells and was told, and looks whether the lab has changed.
func TestNewMemory(t *testing.T) {
	for seed, x := range setups() {
		x.Rules = append(x.Rules, shift(77), shift(88))
		rules := slices.Clone(x.Rules)
		x.Rules = x.Rules[:len(x.Rules)-2]
		l, m := busy(t, x, 60, uint64(seed+1100))
		if l.Mark("a") != m.obey(order{word: "mark", name: "a"}) {
			t.Fatal("no mark")
		}
		b := append(l.Bytes(), "torn"...)
		book := slices.Clone(b)
		c, e := lab.Read(x, b[:len(b)-4])
		if e != api.OK || !slices.Equal(b, book) || !slices.Equal(x.Rules[:len(rules)], rules) {
			t.Fatalf("Read, error %d, changes its arguments", e)
		}
		m.setup.Rules = slices.Clone(x.Rules)
		spoil(b, 'x')
		spoil(x.Rules, api.Rule{Kind: 9})
		for _, l := range []*lab.Lab{l, c} {
			g, w := l.Grid(), l.Wall()
			spoil(g.Cells, api.Cell{-7, 7, 7, 7})
			spoil(w.Kind, 9)
			spoil(w.Body, 99)
			spoil(l.Marks(), "spoilt")
			spoil(l.Lines(), api.Entry{Text: "spoilt"})
			spoil(l.Bytes(), '?')
			if told(l) != m.told() {
				t.Fatalf("the lab tells %swant %s", told(l), m.told())
			}
		}
		// The marks are unspoilt as well, and so are the rules.
		for _, o := range []order{{word: "step", n: []int{9}}, {word: "go", name: "a"}, {word: "step", n: []int{5}}} {
			want := m.obey(o)
			if o.give(l) != want || o.give(c) != want || told(l) != m.told() || told(c) != m.told() {
				t.Fatalf("%s, and the labs tell %sand %swant %s", o.text(), told(l), told(c), m.told())
			}
		}
	}
}

// TestUnmade: a nil lab, and one that nobody made, does nothing.
func TestUnmade(t *testing.T) {
	for _, l := range []*lab.Lab{nil, {}, new(lab.Lab)} {
		next := thrown(12)
		for range 200 {
			for _, o := range []order{someOrder(chapter(), next), spoilt(someOrder(chapter(), next), next)} {
				if e := o.give(l); e != api.ErrInvalid {
					t.Errorf("%s = %d", o.text(), e)
				}
			}
		}
		mass, east, north := l.Account()
		if l.Now() != 0 || l.Undoable() != 0 || mass != 0 || east != 0 || north != 0 || l.Given(1) != (api.Push{}) || l.Given(-1) != (api.Push{}) {
			t.Errorf("the lab tells %s", told(l))
		}
		g, w := l.Grid(), l.Wall()
		if g.Wide != 0 || g.High != 0 || len(g.Cells) != 0 || len(w.Kind) != 0 || len(w.Body) != 0 {
			t.Errorf("Grid = %v, Wall = %v", g, w)
		}
		if len(l.Marks()) != 0 || len(l.Lines()) != 0 || len(l.Bytes()) != 0 {
			t.Errorf("the lab tells %s", told(l))
		}
		for _, s := range []string{"", "\n", "now", "put 0 0 0 1\nstep 1\n", "fly", string(make([]byte, api.MaxText+1))} {
			prints(t, l, s, "error 1\n")
		}
		if lab.Same(l, l) || lab.Same(l, made(t, chapter())) || lab.Same(made(t, chapter()), l) {
			t.Error("Same of a lab that nobody made")
		}
	}
}

// TestNilIsEmpty: nil and empty lists are the same.
func TestNilIsEmpty(t *testing.T) {
	x := chapter()
	for _, rules := range [][]api.Rule{nil, {}} {
		x.Rules = rules
		if l, e := lab.New(x); l != nil || e != api.ErrInvalid || lab.ValidSetup(x) {
			t.Errorf("New: %d", e)
		}
	}
	for _, b := range [][]byte{nil, {}} {
		if l, e := lab.Read(chapter(), b); e != api.OK || !lab.Same(l, made(t, chapter())) {
			t.Errorf("Read: %d", e)
		}
	}
}

// TestWild gives calls numbers beyond all ranges: they return, a failing one changes nothing, and the book makes the lab again.
func TestWild(t *testing.T) {
	next := thrown(13)
	numbers := []int{0, 1, 2, 3, 4, 9, 10, 64, 65, 1000, 1001, 10000, 10001, -1, api.MaxMass, api.MaxMass + 1, -api.MaxMass, 1 << 62, math.MaxInt, math.MinInt}
	words := []string{"put", "take", "disc", "smooth", "box", "clear", "step", "back", "mark", "go"}
	for _, x := range setups() {
		l := made(t, x)
		for range 2000 {
			o := order{word: words[next(len(words))], name: append(badNames(), "", "a")[next(9)]}
			for range 6 {
				o.n = append(o.n, numbers[next(len(numbers))])
			}
			before := len(l.Lines())
			e := o.give(l)
			if e < api.OK || e > api.ErrCommand || (e == api.OK) != (len(l.Lines()) == before+1) {
				t.Fatalf("%s = %d, and the book has %d lines", o.text(), e, len(l.Lines()))
			}
		}
		if c, e := lab.Read(x, l.Bytes()); e != api.OK || told(c) != told(l) {
			t.Fatalf("Read: %d", e)
		}
	}
}

// TestBadBooks reads bytes that look a bit like a book.
func TestBadBooks(t *testing.T) {
	next := thrown(14)
	l, _ := busy(t, chapter(), 40, 15)
	b := l.Bytes()
	for range 5000 {
		spoilt := slices.Clone(b[:next(len(b)+1)])
		for range next(4) {
			if len(spoilt) > 0 {
				spoilt[next(len(spoilt))] = "\n 0129-ax\x00\xff"[next(11)]
			}
		}
		r, e := lab.Read(chapter(), spoilt)
		if e != api.OK && e != api.ErrChain || (e == api.OK) != (r != nil) {
			t.Fatalf("Read of %q = %v, %d", spoilt, r, e)
		}
	}
}

// TestSameAgain: the same calls give the same lab each time.
func TestSameAgain(t *testing.T) {
	for seed, x := range setups() {
		first, _ := busy(t, x, 100, uint64(seed+1200))
		for range 3 {
			if again, _ := busy(t, x, 100, uint64(seed+1200)); told(again) != told(first) || !lab.Same(again, first) {
				t.Fatalf("a lab tells %sand then %s", told(first), told(again))
			}
		}
	}
}
