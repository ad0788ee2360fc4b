package lab_test

import (
	"fmt"
	"math"
	"slices"
	"strings"
	"testing"

	"slipstream/api"
	"slipstream/grid"
	"slipstream/lab"
	"slipstream/wall"
)

// thrown returns numbers from 0 to most-1 that look as if they were thrown; seed tells which.
func thrown(seed uint64) func(most int) int {
	return func(most int) int {
		seed = seed*6364136223846793005 + 1442695040888963407
		return int(seed>>33) % most
	}
}

func none() api.Rule { return api.Rule{Kind: api.RNone} }

func turn() api.Rule { return api.Rule{Kind: api.RTurn} }

func shift(by int) api.Rule { return api.Rule{Kind: api.RShift, By: by} }

// chapter is the setup of the chapter's examples.
func chapter() lab.Setup {
	return lab.Setup{Wide: 4, High: 1, Rules: []api.Rule{none()}, Nodes: 2}
}

func setups() []lab.Setup {
	return []lab.Setup{
		chapter(),
		{Wide: 1, High: 1, Rules: []api.Rule{turn()}, Nodes: 1},
		{Wide: 5, High: 4, Rules: []api.Rule{turn(), none(), shift(3)}, Nodes: 3},
		{Wide: 3, High: 3, Rules: []api.Rule{shift(-2)}, Nodes: 8},
		{Wide: 1, High: 6, Rules: []api.Rule{turn(), shift(1)}, Nodes: 5},
		{Wide: 9, High: 2, Rules: []api.Rule{none(), turn(), shift(1), shift(2), shift(3), shift(-7), turn(), shift(123456789)}, Nodes: 4},
	}
}

func badSetups() []lab.Setup {
	bad := []lab.Setup{{}}
	change := func(f func(x *lab.Setup)) {
		x := chapter()
		f(&x)
		bad = append(bad, x)
	}
	for _, side := range []int{0, -1, 65, math.MaxInt, math.MinInt} {
		change(func(x *lab.Setup) { x.Wide = side })
		change(func(x *lab.Setup) { x.High = side })
	}
	change(func(x *lab.Setup) { x.Wide, x.High = 64, 17 })
	change(func(x *lab.Setup) { x.Wide, x.High = 1<<32, 1<<32 })
	for _, nodes := range []int{0, -1, 9, 16, math.MaxInt, math.MinInt} {
		change(func(x *lab.Setup) { x.Nodes = nodes })
	}
	for _, rules := range [][]api.Rule{nil, {}, make([]api.Rule, 9), {{Kind: 3}}, {{Kind: -1}}, {{Kind: api.RTurn, By: 1}}, {turn(), shift(api.MaxMass + 1)}} {
		change(func(x *lab.Setup) { x.Rules = rules })
	}
	return bad
}

func made(t *testing.T, x lab.Setup) *lab.Lab {
	t.Helper()
	l, e := lab.New(x)
	if e != api.OK || l == nil {
		t.Fatalf("New(%v) = %v, %d", x, l, e)
	}
	return l
}

// order is a command: its word, and its numbers or its name.
type order struct {
	word string
	n    []int
	name string
}

func (o order) text() string {
	if len(o.n) == 0 {
		return o.word + " " + o.name
	}
	return o.word + " " + strings.Trim(fmt.Sprint(o.n), "[]")
}

// give calls the method of a lab.
func (o order) give(l *lab.Lab) api.Errno {
	n := append(slices.Clone(o.n), make([]int, 6)...)
	p, q := api.Point{X: n[0], Y: n[1]}, api.Point{X: n[2], Y: n[3]}
	switch o.word {
	case "put":
		return l.Put(p, n[2], n[3])
	case "take":
		return l.Take(p, n[2], n[3])
	case "disc":
		return l.Disc(p, n[2], n[3])
	case "smooth":
		return l.Smooth(p, n[2], n[3])
	case "box":
		return l.Box(p, q, n[4], n[5])
	case "clear":
		return l.Clear(n[0])
	case "step":
		return l.Step(n[0])
	case "back":
		return l.Back(n[0])
	case "mark":
		return l.Mark(o.name)
	}
	return l.Go(o.name)
}

// moment is what the chapter lets a mark keep. In it is all of the past that can be undone.
type moment struct {
	g                 api.Grid
	w                 api.Wall
	t                 int
	past              []moment
	mass, east, north int
	given             [api.MaxBodies + 1]api.Push
}

// model is a lab as the chapter writes it, which remembers its past instead of undoing its steps.
type model struct {
	setup lab.Setup
	moment
	marks  map[string]moment
	lines  []api.Entry
	obeyed []order
}

func newModel(x lab.Setup) *model {
	g, _ := grid.Empty(x.Wide, x.High)
	w, _ := wall.Open(g)
	return &model{setup: x, moment: moment{g: g, w: w}, marks: map[string]moment{}}
}

// obey does an order, and writes its line if it succeeds.
func (m *model) obey(o order) api.Errno {
	if len(m.lines) == api.MaxLines {
		return api.ErrLimit
	}
	var e api.Errno
	switch o.word {
	case "put", "take":
		e = m.move(o)
	case "step":
		e = m.step(o.n[0])
	case "back":
		e = m.back(o.n[0])
	case "mark":
		e = m.mark(o.name)
	case "go":
		past, ok := m.marks[o.name]
		if !ok {
			return api.ErrName
		}
		m.moment = past
	default:
		e = m.build(o)
	}
	if e == api.OK {
		m.lines = append(m.lines, lineBehind(m.lines, m.t, o.text()))
		m.obeyed = append(m.obeyed, o)
	}
	return e
}

func (m *model) move(o order) api.Errno {
	p, dir, n := api.Point{X: o.n[0], Y: o.n[1]}, o.n[2], o.n[3]
	var g api.Grid
	var e api.Errno
	if o.word == "put" {
		g, e = grid.Put(m.g, p, dir, n)
	} else {
		g, e = grid.Take(m.g, p, dir, n)
		n = -n
	}
	if e != api.OK {
		return e
	}
	m.g, m.past = g, nil
	m.mass += n
	m.east += []int{n, 0, -n, 0}[dir]
	m.north += []int{0, n, 0, -n}[dir]
	return api.OK
}

func (m *model) build(o order) api.Errno {
	n := append(slices.Clone(o.n), make([]int, 6)...)
	p, q := api.Point{X: n[0], Y: n[1]}, api.Point{X: n[2], Y: n[3]}
	var w api.Wall
	var e api.Errno
	switch o.word {
	case "disc":
		w, e = wall.Disc(m.g, m.w, p, n[2], n[3])
	case "smooth":
		w, e = wall.Smooth(m.g, m.w, p, n[2], n[3])
	case "box":
		w, e = wall.Box(m.g, m.w, p, q, n[4], n[5])
	case "clear":
		w, e = wall.Removed(m.g, m.w, n[0])
	}
	if e == api.OK {
		m.w, m.past = w, nil
	}
	return e
}

func (m *model) step(n int) api.Errno {
	if n < 1 || n > 1000 {
		return api.ErrRange
	}
	if m.t+n > 1000000 {
		return api.ErrLimit
	}
	for range n {
		before := m.moment
		before.past = nil
		m.past = append(slices.Clip(m.past), before)
		for body := range m.given {
			p, _ := wall.Drag(m.g, m.w, m.setup.Rules, m.t, 1, body)
			m.given[body].East += p.East
			m.given[body].North += p.North
		}
		m.g, _ = wall.Run(m.g, m.w, m.setup.Rules, m.t, 1)
		m.t++
	}
	return api.OK
}

func (m *model) back(n int) api.Errno {
	if n < 1 || n > 1000 {
		return api.ErrRange
	}
	left := len(m.past) - n
	if left < 0 {
		return api.ErrState
	}
	before := m.past
	m.moment = before[left]
	m.past = before[:left]
	return api.OK
}

func (m *model) mark(name string) api.Errno {
	if !slices.Contains(goodNames(), name) {
		return api.ErrInvalid
	}
	if _, ok := m.marks[name]; !ok && len(m.marks) == 16 {
		return api.ErrLimit
	}
	m.marks[name] = m.moment
	return api.OK
}

// lineBehind returns the line of a book that stands behind others, as section 'The book' writes it.
func lineBehind(lines []api.Entry, step int, text string) api.Entry {
	var before uint64
	if len(lines) > 0 {
		before = lines[len(lines)-1].Sum
	}
	sum := uint64(14695981039346656037)
	for _, b := range []byte(fmt.Sprintf("%d %d %d %s", before, len(lines), step, text)) {
		sum ^= uint64(b)
		sum *= 1099511628211
	}
	return api.Entry{Number: len(lines), Step: step, Text: text, Sum: sum}
}

// bytesOf returns the bytes of a book.
func bytesOf(lines []api.Entry) []byte {
	var b []byte
	for _, x := range lines {
		b = fmt.Appendf(b, "%d %d %d %s\n", x.Number, x.Step, x.Sum, x.Text)
	}
	return b
}

// told is all that a lab tells of itself.
func told(l *lab.Lab) string {
	var given []api.Push
	for body := -1; body <= api.MaxBodies+1; body++ {
		given = append(given, l.Given(body))
	}
	mass, east, north := l.Account()
	return fmt.Sprintln(l.Now(), l.Undoable(), l.Grid(), l.Wall(), mass, east, north, given, l.Marks(), l.Lines(), string(l.Bytes()))
}

// toldButBook is all of that but the book.
func toldButBook(l *lab.Lab) string {
	return toldButMarks(l) + fmt.Sprint(l.Marks())
}

// toldButMarks is all of that but the book and the marks.
func toldButMarks(l *lab.Lab) string {
	text := told(l)
	return text[:strings.Index(text, fmt.Sprint(l.Marks(), l.Lines()))]
}

// told is what a lab that is like the model tells.
func (m *model) told() string {
	given := make([]api.Push, api.MaxBodies+3)
	copy(given[1:], m.given[:])
	var names []string
	for name := range m.marks {
		names = append(names, name)
	}
	slices.Sort(names)
	return fmt.Sprintln(m.t, len(m.past), m.g, m.w, m.mass, m.east, m.north, given, names, m.lines, string(bytesOf(m.lines)))
}

func goodNames() []string {
	return []string{"a", "b", "z", "a0", "a_", "a_9z", "before_the_walls", "zzzzzzzzzzzzzzzz", "c", "d", "e", "f", "g", "h", "i", "j", "k", "go", "mark"}
}

// badNames are words, but no names.
func badNames() []string {
	return []string{
		"A", "aB", "0", "0a", "_", "_a", "a-b", "a.b", "a\t", "a\r", "a\x00", "\x00", "ä", "aä", "a\xff", "a`", "a{", "`", "{", "a/", "a:", "a^", "a@", "a[", "aaaaaaaaaaaaaaaaa", "before_the_walls_", strings.Repeat("a", 300),
	}
}

// someOrder returns an order that mostly makes sense for a setup.
func someOrder(x lab.Setup, next func(int) int) order {
	words := []string{"put", "put", "put", "take", "take", "disc", "smooth", "box", "clear", "step", "step", "step", "step", "back", "back", "back", "mark", "go"}
	o := order{word: words[next(len(words))]}
	px, py := next(x.Wide), next(x.High)
	switch o.word {
	case "put":
		o.n = []int{px, py, next(4), next(9)}
	case "take":
		o.n = []int{px, py, next(4), next(3)}
	case "disc", "smooth":
		o.n = []int{px, py, next(4), 1 + next(3)}
	case "box":
		o.n = []int{px, py, next(x.Wide), next(x.High), 1 + next(3), 1 + next(3)}
	case "clear":
		o.n = []int{1 + next(3)}
	case "step", "back":
		o.n = []int{1 + next(4)}
	default:
		names := goodNames()
		o.name = names[next(len(names))]
		if next(9) == 0 {
			o.name = badNames()[next(len(badNames()))]
		}
	}
	return o
}

// spoilt returns an order of which about one number in eight is some other one.
func spoilt(o order, next func(int) int) order {
	numbers := []int{0, 1, 4, 9, 10, -1, 63, 64, 1000, 1001, 10000, 10001, api.MaxMass, api.MaxMass + 1, 1000000000000000, -1000000000000000}
	o.n = slices.Clone(o.n)
	for i := range o.n {
		if next(8) == 0 {
			o.n[i] = numbers[next(len(numbers))]
		}
	}
	return o
}

// busy returns a lab to which many orders were given, and what did the same.
func busy(t *testing.T, x lab.Setup, orders int, seed uint64) (*lab.Lab, *model) {
	t.Helper()
	l, m, next := made(t, x), newModel(x), thrown(seed)
	for range orders {
		o := spoilt(someOrder(x, next), next)
		got, want := o.give(l), m.obey(o)
		if got != want {
			t.Fatalf("%s = %d, want %d", o.text(), got, want)
		}
	}
	return l, m
}
