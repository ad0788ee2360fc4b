package node_test

import (
	"fmt"
	"math"
	"slices"
	"testing"

	"slipstream/api"
	"slipstream/node"
)

// slot is memory of an argument or a result.
type slot struct {
	scribble func()
	intact   func() bool
}

func slotOf[T comparable](l []T, junk T) slot {
	before := slices.Clone(l[:cap(l)])
	return slot{
		scribble: func() {
			for i := range l[:cap(l)] {
				l[:cap(l)][i] = junk
			}
		},
		intact: func() bool { return slices.Equal(l[:cap(l)], before) },
	}
}

func slotOfInts(l []int) slot { return slotOf(l, -99) }

func slotOfCells(l []api.Cell) slot { return slotOf(l, api.Cell{-9, -9, -9, -9}) }

func slotOfNotes(l []api.Note) slot { return slotOf(l, api.Note{Step: -9, From: -9, Cell: -9}) }

func slotsOfSites(l []api.Site) []slot {
	var slots []slot
	for _, s := range l {
		slots = append(slots, slotOfInts(s.Index), slotOfCells(s.Cells))
	}
	return slots
}

// roomy returns a list with more behind it in its memory: its own first element again, or zeros.
func roomy[T any](l []T) []T {
	room := make([]T, len(l), len(l)+5)
	copy(room, l)
	if len(l) > 0 {
		for i := range 5 {
			room[:cap(room)][len(l)+i] = l[0]
		}
	}
	return room
}

// given returns arguments in memory with room behind each list, and its slots.
func given(a arguments) (arguments, []slot) {
	a.g.Cells, a.owner, a.rules, a.post, a.order = roomy(a.g.Cells), roomy(a.owner), roomy(a.rules), roomy(a.post), roomy(a.order)
	a.site.Index, a.site.Cells, a.sites = roomy(a.site.Index), roomy(a.site.Cells), slices.Clone(a.sites)
	slots := []slot{slotOfCells(a.g.Cells), slotOfInts(a.owner), slotOf(a.rules, api.Rule{Kind: 9}), slotOfNotes(a.post), slotOfInts(a.order), slotOfInts(a.site.Index), slotOfCells(a.site.Cells)}
	for i, s := range a.sites {
		a.sites[i].Index, a.sites[i].Cells = roomy(s.Index), roomy(s.Cells)
	}
	a.sites = roomy(a.sites)
	before := fmt.Sprint(a.sites[:cap(a.sites)])
	kept := slot{func() {}, func() bool { return fmt.Sprint(a.sites[:cap(a.sites)]) == before }}
	return a, append(append(slots, kept), slotsOfSites(a.sites)...)
}

// memoryCall is a call that is told what it returns, and its memory.
type memoryCall struct {
	name string
	do   func(a arguments) (string, []slot)
}

func memoryCalls() []memoryCall {
	return []memoryCall{
		{"Split", func(a arguments) (string, []slot) {
			l, e := node.Split(a.g, a.owner)
			return fmt.Sprint(l, e), slotsOfSites(l)
		}},
		{"Due", func(a arguments) (string, []slot) {
			l, e := node.Due(a.g, a.owner, a.node, a.step)
			return fmt.Sprint(l, e), []slot{slotOfNotes(l)}
		}},
		{"Act", func(a arguments) (string, []slot) {
			s, post, e := node.Act(a.g, a.owner, a.rules, a.site, a.post)
			return fmt.Sprint(s, post, e), append(slotsOfSites([]api.Site{s}), slotOfNotes(post))
		}},
		{"Play", func(a arguments) (string, []slot) {
			l, post, n, e := node.Play(a.g, a.owner, a.rules, a.step, a.order)
			return fmt.Sprint(l, post, n, e), append(slotsOfSites(l), slotOfNotes(post))
		}},
		{"Stuck", func(a arguments) (string, []slot) {
			l, e := node.Stuck(a.g, a.owner, a.sites, nil, a.step+1)
			return fmt.Sprint(l, e), []slot{slotOfInts(l)}
		}},
		{"Lost", func(a arguments) (string, []slot) {
			l, e := node.Lost(a.g, a.owner, a.sites, a.post[:len(a.post)/2])
			return fmt.Sprint(l, e), []slot{slotOfNotes(l)}
		}},
		{"Merge", func(a arguments) (string, []slot) {
			g, e := node.Merge(a.g, a.owner, a.sites, a.post)
			return fmt.Sprint(g, e), []slot{slotOfCells(g.Cells)}
		}},
		{"Run", func(a arguments) (string, []slot) {
			g, e := node.Run(a.g, a.owner, a.rules, a.step)
			return fmt.Sprint(g, e), []slot{slotOfCells(g.Cells)}
		}},
		{"Neighbours", func(a arguments) (string, []slot) {
			l, e := node.Neighbours(a.g, a.owner, a.node)
			return fmt.Sprint(l, e), []slot{slotOfInts(l)}
		}},
		{"Columns", func(a arguments) (string, []slot) {
			l, e := node.Columns(a.g, a.order[1:2])
			return fmt.Sprint(l, e), []slot{slotOfInts(l)}
		}},
		{"Sorted", func(a arguments) (string, []slot) {
			l := node.Sorted(a.post)
			return fmt.Sprint(l), []slot{slotOfNotes(l)}
		}},
		{"Parse", func(a arguments) (string, []slot) {
			l, line, e := node.Parse(node.Format(a.post))
			return fmt.Sprint(l, line, e), []slot{slotOfNotes(l)}
		}},
		{"calls that only tell", func(a arguments) (string, []slot) {
			ready, e := node.Ready(a.g, a.owner, a.site, a.post)
			n, f := node.Traffic(a.g, a.owner)
			return fmt.Sprint(node.ValidMap(a.g, a.owner), node.Valid(a.g, a.owner, a.sites), node.ValidPost(a.g, a.owner, a.post), ready, e, n, f, node.Mass(a.sites, a.post)), nil
		}},
	}
}

// TestNewMemory writes over a result's memory, list by list, and looks whether another list of it has changed, an argument, or the next result.
func TestNewMemory(t *testing.T) {
	apart := right()
	slices.Reverse(apart.post)
	zero := right()
	zero.step, zero.order = 0, []int{0, 1}
	first := right()
	first.sites, first.post = halves().split(), nil
	first.site = first.sites[1]
	for _, x := range []arguments{right(), apart, zero, first} {
		for _, c := range memoryCalls() {
			a, slots := given(x)
			want, _ := c.do(a)
			text, results := c.do(a)
			if text != want {
				t.Errorf("%s gives %s, and then %s", c.name, want, text)
			}
			for i, r := range results {
				r.scribble()
				for _, other := range results[i+1:] {
					if !other.intact() {
						t.Errorf("%s: two lists of a result share memory", c.name)
					}
				}
			}
			for _, s := range slots {
				if !s.intact() {
					t.Errorf("%s changes an argument, or keeps it", c.name)
				}
			}
			if text, _ := c.do(a); text != want {
				t.Errorf("%s gives %s, and after that was written over %s", c.name, want, text)
			}
		}
	}
}

// TestNothingKept: what is changed in the arguments after a call does not change its result.
func TestNothingKept(t *testing.T) {
	for _, c := range memoryCalls() {
		a, slots := given(right())
		_, results := c.do(a)
		for _, s := range slots {
			s.scribble()
		}
		for _, r := range results {
			if !r.intact() {
				t.Errorf("%s: a result shares memory with an argument", c.name)
			}
		}
	}
}

// TestNilIsEmpty: nil and empty lists are the same.
func TestNilIsEmpty(t *testing.T) {
	x := halves()
	a := arguments{g: x.g, owner: x.owner, rules: []api.Rule{turn()}, sites: x.split(), site: x.split()[0], node: 1, step: 3}
	b := a
	b.post, b.order = []api.Note{}, []int{}
	first, second := outcomes(a), outcomes(b)
	if !slices.Equal(first, second) {
		t.Errorf("%v with nil, %v with empty lists", first, second)
	}
	wrong(t, arguments{}, api.ErrInvalid, "Split", "Due", "Ready", "Act", "Play", "Stuck", "Lost", "Merge", "Run", "Traffic", "Neighbours")
	b.g.Cells, b.owner, b.sites = []api.Cell{}, []int{}, []api.Site{}
	wrong(t, b, api.ErrInvalid, "Split", "Due", "Ready", "Act", "Play", "Stuck", "Lost", "Merge", "Run", "Traffic", "Neighbours")
}

// TestWild gives calls numbers beyond all ranges, several at once: they all return, and with an error nothing else.
func TestWild(t *testing.T) {
	next := thrown(21)
	numbers := []int{0, 1, 2, 3, -1, 7, 8, 1000, 1001, api.MaxStep, api.MaxStep + 1, api.MaxMass, api.MaxMass + 1, math.MaxInt, math.MinInt}
	wild := func() int { return numbers[next(len(numbers))] }
	for range 3000 {
		a := right()
		for range 1 + next(3) {
			switch at := next(4); next(12) {
			case 0:
				a.g.Wide, a.g.High = wild(), wild()
			case 1:
				a.g.Cells[at][next(4)] = wild()
			case 2:
				a.owner[at] = wild()
			case 3:
				a.rules[0] = api.Rule{Kind: next(4), By: wild()}
			case 4:
				a.node, a.step = wild(), wild()
			case 5:
				a.site.Node, a.site.Step = wild(), wild()
			case 6:
				a.site.Index = []int{wild(), wild()}
			case 7:
				a.sites[at/2].Node, a.sites[at/2].Step = wild(), wild()
			case 8:
				a.sites[at/2].Cells[at%2][next(4)] = wild()
			case 9:
				a.post[at] = api.Note{Step: wild(), From: wild(), To: wild(), Cell: wild(), Dir: wild(), Count: wild()}
			case 10:
				a.post[at].Step, a.post[at].Count = wild(), wild()
			case 11:
				a.order = []int{wild(), 0, wild()}
			}
		}
		if slices.ContainsFunc(a.sites, func(s api.Site) bool { return s.Step > 1000 }) {
			// So many lost notes would take long to list.
			a.sites[0].Step = a.sites[1].Step
		}
		for _, o := range outcomes(a) {
			if o.e < api.OK || o.e > api.ErrCommand || o.e != api.OK && !o.zero {
				t.Fatalf("%s of %v gives an error %d, and more", o.name, a, o.e)
			}
		}
		node.Columns(a.g, []int{wild(), wild()})
		node.Mass(a.sites, a.post)
		node.Parse(node.Format(node.Sorted(a.post)))
	}
}
