package lab_test

import (
	"bytes"
	"fmt"
	"math"
	"slices"
	"testing"

	"slipstream/api"
	"slipstream/lab"
)

// said is what a line of a book says.
type said struct {
	step int
	text string
}

// bookOf returns the lines of a book with the right numbers and sums, whether their commands can be done or not.
func bookOf(l ...said) []api.Entry {
	var lines []api.Entry
	for _, x := range l {
		lines = append(lines, lineBehind(lines, x.step, x.text))
	}
	return lines
}

// TestFirstLine is the chapter's example.
func TestFirstLine(t *testing.T) {
	l := made(t, chapter())
	if e := l.Put(api.Point{}, api.East, 5); e != api.OK {
		t.Fatal(e)
	}
	want := api.Entry{Number: 0, Step: 0, Text: "put 0 0 0 5", Sum: 3507587580215644773}
	if lines := l.Lines(); !slices.Equal(lines, []api.Entry{want}) || lines[0] != lineBehind(nil, 0, "put 0 0 0 5") {
		t.Errorf("Lines = %v", lines)
	}
	if b := l.Bytes(); string(b) != "0 0 3507587580215644773 put 0 0 0 5\n" {
		t.Errorf("Bytes = %q", b)
	}
}

// TestTexts looks at the line of every command.
func TestTexts(t *testing.T) {
	l := made(t, lab.Setup{Wide: 12, High: 11, Rules: []api.Rule{turn()}, Nodes: 2})
	p, q := api.Point{X: 10, Y: 2}, api.Point{X: 3, Y: 4}
	for _, e := range []api.Errno{
		l.Put(p, 3, 25), l.Take(p, 3, 12), l.Disc(p, 1, 9), l.Smooth(q, 2, 8), l.Box(p, api.Point{X: 11, Y: 10}, 3, 9), l.Step(1000), l.Step(5), l.Mark("a_1"), l.Back(7), l.Go("a_1"), l.Clear(9),
	} {
		if e != api.OK {
			t.Fatal(e)
		}
	}
	want := bookOf(
		said{0, "put 10 2 3 25"}, said{0, "take 10 2 3 12"}, said{0, "disc 10 2 1 9"}, said{0, "smooth 3 4 2 8"}, said{0, "box 10 2 11 10 3 9"}, said{1000, "step 1000"},
		said{1005, "step 5"}, said{1005, "mark a_1"}, said{998, "back 7"}, said{1005, "go a_1"}, said{1005, "clear 9"})
	if lines := l.Lines(); !slices.Equal(lines, want) {
		t.Errorf("Lines = %v", lines)
	}
	if b := l.Bytes(); !bytes.Equal(b, bytesOf(want)) {
		t.Errorf("Bytes = %q", b)
	}
}

// TestRead: a book makes its lab again.
func TestRead(t *testing.T) {
	for seed, x := range slices.Repeat(setups(), 5) {
		l, m := busy(t, x, 150, uint64(seed+400))
		c, e := lab.Read(x, l.Bytes())
		if e != api.OK || told(c) != m.told() || !lab.Same(c, l) {
			t.Fatalf("Read, error %d, tells %swant %s", e, told(c), m.told())
		}
		// What it keeps under its marks shows behind Go.
		for _, name := range l.Marks() {
			if l.Go(name) != api.OK || c.Go(name) != api.OK || told(c) != told(l) || !lab.Same(c, l) {
				t.Fatalf("behind Go to %s the lab tells %swant %s", name, told(c), told(l))
			}
		}
	}
	for _, x := range setups() {
		for _, b := range [][]byte{nil, {}, []byte("0"), []byte("torn")} {
			if c, e := lab.Read(x, b); e != api.OK || !lab.Same(c, made(t, x)) {
				t.Errorf("Read(%q): %d", b, e)
			}
		}
	}
}

// TestBeginnings reads every beginning of a book's bytes.
func TestBeginnings(t *testing.T) {
	for seed, x := range setups() {
		l, whole := busy(t, x, 30, uint64(seed+500))
		m, b := newModel(x), l.Bytes()
		for i := range len(b) + 1 {
			if i > 0 && b[i-1] == '\n' {
				if o := whole.obeyed[len(m.obeyed)]; m.obey(o) != api.OK {
					t.Fatalf("%s fails", o.text())
				}
			}
			c, e := lab.Read(x, b[:i])
			if e != api.OK || told(c) != m.told() {
				t.Fatalf("Read of %d bytes, error %d, tells %swant %s", i, e, told(c), m.told())
			}
		}
	}
}

// TestChangedBytes changes every byte of a book, but the line feeds, to several other ones.
func TestChangedBytes(t *testing.T) {
	for seed, x := range setups()[:3] {
		l, _ := busy(t, x, 25, uint64(seed+600))
		b := l.Bytes()
		for i, old := range b {
			for _, c := range []byte{old ^ 1, old ^ 128, old + 1, ' ', '0', '9', 'a', 0} {
				if c == old || c == '\n' || old == '\n' {
					continue
				}
				changed := slices.Clone(b)
				changed[i] = c
				if r, e := lab.Read(x, changed); e != api.ErrChain || r != nil {
					t.Fatalf("Read of %q = %v, %d", changed, r, e)
				}
			}
		}
		// A line that is missing, twice there, or in another's place.
		lines := bytes.SplitAfter(b, []byte("\n"))
		lines = lines[:len(lines)-1]
		for i := range lines[1:] {
			for _, other := range [][][]byte{
				slices.Concat(lines[:i], lines[i+1:]), slices.Concat(lines[:i+1], lines[i:]), slices.Concat(lines[:i], [][]byte{lines[i+1], lines[i]}, lines[i+2:]),
			} {
				if r, e := lab.Read(x, bytes.Join(other, nil)); e != api.ErrChain || r != nil {
					t.Fatalf("Read of %q = %v, %d", bytes.Join(other, nil), r, e)
				}
			}
		}
	}
}

// TestBadLines: each of these is no line, with whatever stands before it and behind it.
func TestBadLines(t *testing.T) {
	first := bookOf(said{0, "put 0 0 0 5"})
	rest := bookOf(said{0, "put 0 0 0 5"}, said{2, "step 2"})
	good, sum := bytesOf(first), rest[1].Sum
	tail := string(bytesOf(rest)[len(good):])
	if c, e := lab.Read(chapter(), append(good, tail...)); e != api.OK || c.Now() != 2 {
		t.Fatalf("Read: %d", e)
	}
	empty := lineBehind(first, 2, "").Sum
	beyond, below := lineBehind(first, api.MaxStep+1, "step 2").Sum, lineBehind(first, -1, "step 2").Sum
	great := lineBehind(first, math.MaxInt, "step 2").Sum
	for _, line := range []string{
		"", " ", "1", "1 ", "1 2", "1 2 ", fmt.Sprintf("1 2 %d", sum), fmt.Sprintf("1 2 %d ", empty), fmt.Sprintf("1 2 %d", empty),
		fmt.Sprintf("01 2 %d step 2", sum), fmt.Sprintf("1 02 %d step 2", sum), fmt.Sprintf("1 2 0%d step 2", sum),
		fmt.Sprintf("+1 2 %d step 2", sum), fmt.Sprintf("1 +2 %d step 2", sum), fmt.Sprintf("1 2 +%d step 2", sum), fmt.Sprintf("-1 2 %d step 2", sum),
		fmt.Sprintf("0 2 %d step 2", sum), fmt.Sprintf("2 2 %d step 2", sum), fmt.Sprintf("1 3 %d step 2", sum), fmt.Sprintf("1 2 %d step 2", sum+1), fmt.Sprintf("1 2 %d step 3", sum),
		fmt.Sprintf("1 2 %d  step 2", sum), fmt.Sprintf("1  2 %d step 2", sum), fmt.Sprintf("1 2  %d step 2", sum), fmt.Sprintf(" 1 2 %d step 2", sum), fmt.Sprintf("1 2 %d step 2 ", sum), fmt.Sprintf("1 2 %d step 2\r", sum),
		fmt.Sprintf("1\t2 %d step 2", sum), fmt.Sprintf("x 2 %d step 2", sum), fmt.Sprintf("1 x %d step 2", sum), "1 2 x step 2", fmt.Sprintf("1 2 %x step 2", sum),
		fmt.Sprintf("1 %d %d step 2", api.MaxStep+1, beyond), fmt.Sprintf("1 -1 %d step 2", below), fmt.Sprintf("1 %d %d step 2", math.MaxInt, great), fmt.Sprintf("1 9%d %d step 2", math.MaxInt, great),
		fmt.Sprintf("1 2 1%020d step 2", sum), "0 0 " + fmt.Sprint(first[0].Sum) + " put 0 0 0 5",
	} {
		for _, text := range []string{line + "\n", line + "\n" + tail, line + "\n" + line, line + "\ntorn", line + "\n\n\n"} {
			b := append(slices.Clone(good), text...)
			if r, e := lab.Read(chapter(), b); e != api.ErrChain || r != nil {
				t.Errorf("Read of %q = %v, %d", b, r, e)
			}
		}
		// The same line, torn, is dropped.
		if r, e := lab.Read(chapter(), append(slices.Clone(good), line...)); e != api.OK || !slices.Equal(r.Lines(), first) {
			t.Errorf("Read of the torn line %q: %d", line, e)
		}
	}
	if r, e := lab.Read(chapter(), []byte("\n")); e != api.ErrChain || r != nil {
		t.Errorf("Read of a line feed: %d", e)
	}
}

// TestBadCommands: lines that fit, but that no lab writes.
func TestBadCommands(t *testing.T) {
	for _, l := range [][]said{
		{{0, "fly"}}, {{0, " "}}, {{0, "put 0 0 0"}}, {{0, "put 0 0 0 05"}}, {{0, "put 0 0 0 5 "}}, {{0, " put 0 0 0 5"}}, {{0, "put 0  0 0 5"}}, {{0, "put 0 0 0 -0"}}, {{0, "put 0 0 0 5\r"}}, {{0, "Put 0 0 0 5"}},
		{{0, "now"}}, {{0, "given 1"}}, {{0, "even"}}, {{0, "\x00\xff"}},
		{{0, "put 4 0 0 5"}}, {{0, "put 0 0 4 5"}}, {{0, "take 0 0 0 1"}}, {{0, "disc 0 0 10001 1"}}, {{0, "clear 1"}}, {{0, "step 0"}}, {{1001, "step 1001"}}, {{0, "back 1"}}, {{0, "mark A"}}, {{0, "mark "}}, {{0, "mark"}}, {{0, "mark a b"}}, {{0, "go a"}},
		{{1, "put 0 0 0 5"}}, {{2, "step 3"}}, {{4, "step 3"}}, {{0, "step 3"}}, {{3, "step 3"}, {3, "back 1"}}, {{3, "step 3"}, {0, "mark a"}}, {{3, "step 3"}, {3, "mark a"}, {2, "back 1"}, {2, "go a"}},
		{{0, "put 0 0 0 5"}, {0, "put 0 0 0 999999996"}}, {{0, "disc 0 0 0 1"}, {0, "disc 0 0 0 2"}}, {{0, "put 0 0 0 0"}, {0, "fly"}, {0, "put 0 0 0 0"}},
	} {
		b := bytesOf(bookOf(l...))
		if r, e := lab.Read(chapter(), b); e != api.ErrState || r != nil {
			t.Errorf("Read of %q = %v, %d", b, r, e)
		}
		// All lines are read before one is done.
		if r, e := lab.Read(chapter(), append(slices.Clone(b), "no line\n"...)); e != api.ErrChain || r != nil {
			t.Errorf("Read of %q and no line = %v, %d", b, r, e)
		}
		if r, e := lab.Read(chapter(), append(slices.Clone(b), "no line"...)); e != api.ErrState || r != nil {
			t.Errorf("Read of %q and a torn line = %v, %d", b, r, e)
		}
	}
	good := bytesOf(bookOf(said{3, "step 3"}))
	if l, e := lab.Read(chapter(), good); e != api.OK || l.Now() != 3 {
		t.Errorf("Read of %q: %d", good, e)
	}
	for _, x := range badSetups() {
		for _, b := range [][]byte{nil, good, []byte("no line\n"), bytesOf(bookOf(said{0, "fly"})), bytesOf(many(2001))} {
			if l, e := lab.Read(x, b); e != api.ErrInvalid || l != nil {
				t.Errorf("Read by the setup %v: %d", x, e)
			}
		}
	}
}

// many returns the lines of a book that puts nothing.
func many(count int) []api.Entry {
	var lines []api.Entry
	for range count {
		lines = append(lines, lineBehind(lines, 0, "put 0 0 0 0"))
	}
	return lines
}

// TestManyLines: a book has 2,000 lines at most.
func TestManyLines(t *testing.T) {
	full := many(2000)
	b := bytesOf(full)
	l, e := lab.Read(chapter(), b)
	if e != api.OK || !slices.Equal(l.Lines(), full) || !bytes.Equal(l.Bytes(), b) {
		t.Fatalf("Read: %d", e)
	}
	if l, e := lab.Read(chapter(), append(slices.Clone(b), "no line"...)); e != api.OK || len(l.Lines()) != 2000 {
		t.Errorf("Read with a torn line: %d", e)
	}
	more := bytesOf(many(2001))
	for _, tail := range []string{"", "torn", "no line\n", string(bytesOf(many(2003))[len(more):])} {
		if l, e := lab.Read(chapter(), append(slices.Clone(more), tail...)); e != api.ErrLimit || l != nil {
			t.Errorf("Read of 2,001 lines and %q: %d", tail, e)
		}
	}
	if l, e := lab.Read(chapter(), bytesOf(append(full, lineBehind(full, 0, "fly")))); e != api.ErrLimit || l != nil {
		t.Errorf("Read of 2,001 lines: %d", e)
	}
	if l, e := lab.Read(chapter(), bytesOf(slices.Concat(full[:7], []api.Entry{lineBehind(full[:7], 0, "fly")}))); e != api.ErrState || l != nil {
		t.Errorf("Read of a line that is no command: %d", e)
	}
	for _, tail := range []string{"no line\n", string(b), "\n", "2000 0 1 put 0 0 0 0\n"} {
		if l, e := lab.Read(chapter(), append(slices.Clone(b), tail...)); e != api.ErrChain || l != nil {
			t.Errorf("Read of 2,000 lines and %q: %d", tail, e)
		}
	}
}

// TestFullBook: when the book is full, every command is an api.ErrLimit, right or wrong, and changes nothing.
func TestFullBook(t *testing.T) {
	l := made(t, chapter())
	for i := range api.MaxLines {
		if e := l.Mark("a"); e != api.OK {
			t.Fatalf("line %d: %d", i, e)
		}
	}
	before := told(l)
	next := thrown(8)
	for range 60 {
		o := spoilt(someOrder(chapter(), next), next)
		if e := o.give(l); e != api.ErrLimit || told(l) != before {
			t.Fatalf("%s = %d", o.text(), e)
		}
		if got := lab.Do(l, o.text()); got != "error 4\n" || told(l) != before {
			t.Fatalf("%s prints %s", o.text(), got)
		}
	}
	if got := lab.Do(l, "now\nfly\nmark a b\nmass\nstep 1\ncell 0 0\nshare\neven"); got != "0\nerror 14\nerror 14\n0\nerror 4\n0 0 0 0\n0\nyes\n" || told(l) != before {
		t.Errorf("Do prints %s", got)
	}
}

// TestGreatSums: sums take all of 64 bits.
func TestGreatSums(t *testing.T) {
	l := made(t, chapter())
	for range 50 {
		if e := l.Step(1); e != api.OK {
			t.Fatal(e)
		}
	}
	if !slices.ContainsFunc(l.Lines(), func(x api.Entry) bool { return x.Sum > math.MaxInt64 }) {
		t.Error("no sum is above 2^63")
	}
	if c, e := lab.Read(chapter(), l.Bytes()); e != api.OK || !lab.Same(c, l) {
		t.Errorf("Read: %d", e)
	}
}
