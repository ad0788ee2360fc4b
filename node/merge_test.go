package node_test

import (
	"slices"
	"testing"

	"slipstream/api"
	"slipstream/node"
)

// lost tells it as the chapter writes it.
func (x state) lost() []api.Note {
	var l []api.Note
	for _, s := range x.sites {
		for step := max(s.Step, 1); step <= 20; step++ {
			for _, n := range x.due(s.Node, step) {
				sender := x.sites[slices.Index(x.nodes(), n.From)]
				if sender.Step >= step && !has(x.post, n) {
					l = append(l, n)
				}
			}
		}
	}
	return sorted(l)
}

func TestLost(t *testing.T) {
	some := 0
	for _, x := range states() {
		l := done[[]api.Note](t)(node.Lost(x.g, x.owner, x.sites, x.post))
		if !slices.Equal(l, x.lost()) {
			t.Fatalf("Lost(%v, %v) among %v = %v, want %v", x.sites, x.post, x.owner, l, x.lost())
		}
		if len(l) > 0 {
			some++
		}
		// Found again, with any Count, nothing is lost any more.
		for i := range l {
			l[i].Count = i
		}
		if l := done[[]api.Note](t)(node.Lost(x.g, x.owner, x.sites, append(l, x.post...))); len(l) != 0 {
			t.Errorf("Lost = %v, though all of it was put back", l)
		}
	}
	if some < 100 {
		t.Errorf("something was lost %d times", some)
	}
}

func TestLostFarBehind(t *testing.T) {
	x := pair()
	for _, c := range []struct{ behind, ahead, first int }{{api.MaxStep - 3, api.MaxStep, api.MaxStep - 3}, {0, 500, 1}, {1, 500, 1}, {api.MaxStep, api.MaxStep, api.MaxStep}} {
		l := x.split()
		l[0].Step, l[1].Step = c.behind, c.ahead
		var want []api.Note
		for step := c.first; step <= c.ahead; step++ {
			want = append(want, x.due(0, step)...)
			if c.behind == c.ahead {
				want = append(want, x.due(1, step)...)
			}
		}
		if lost := done[[]api.Note](t)(node.Lost(x.g, x.owner, l, nil)); !slices.Equal(lost, want) {
			t.Errorf("Lost at %d and %d has %d notes, want %d", c.behind, c.ahead, len(lost), len(want))
		}
	}
}

func TestMergeExample(t *testing.T) {
	a := right()
	cells := slices.Concat(a.sites[0].Cells, a.sites[1].Cells)
	for i := range a.post {
		a.post[i].Count = 100 * (i + 1)
		cells[a.post[i].Cell][a.post[i].Dir] += a.post[i].Count
	}
	slices.Reverse(a.post)
	if g := done[api.Grid](t)(node.Merge(a.g, a.owner, a.sites, a.post)); g.Wide != 4 || g.High != 1 || !slices.Equal(g.Cells, cells) {
		t.Errorf("Merge = %v, want %v", g, cells)
	}
}

// TestMergeAsWritten compares Merge with what the chapter writes, also which error it gives.
func TestMergeAsWritten(t *testing.T) {
	told := map[api.Errno]int{}
	for _, x := range states() {
		step, e := x.sites[0].Step, api.OK
		other := func(n api.Note) bool { return n.Step != step }
		switch {
		case slices.ContainsFunc(x.sites, func(s api.Site) bool { return s.Step != step }):
			e = api.ErrState
		case step > 0 && slices.ContainsFunc(x.allDue(step), func(n api.Note) bool { return !has(x.post, n) }):
			e = api.ErrWait
		case slices.ContainsFunc(x.post, other):
			e = api.ErrState
		case massOf(x.sites, x.post) > api.MaxMass:
			e = api.ErrLimit
		}
		told[e]++
		g, got := node.Merge(x.g, x.owner, x.sites, x.post)
		if got != e || e != api.OK && !isZeroGrid(g) {
			t.Fatalf("Merge(%v, %v) among %v = %v, %d, want %d", x.sites, x.post, x.owner, g, got, e)
		}
	}
	if told[api.OK] < 20 || told[api.ErrState] < 20 || told[api.ErrWait] < 20 {
		t.Errorf("Merge gave so many results of a kind: %v", told)
	}
}

func TestMergeErrors(t *testing.T) {
	refused := func(want api.Errno, change func(a *arguments)) {
		t.Helper()
		a := right()
		change(&a)
		wrong(t, a, want, "Merge")
	}
	heavy := func(a *arguments) { a.post[1].Count = api.MaxMass }
	older := func(a *arguments) {
		a.post = append(a.post, api.Note{Step: 2, From: 1, To: 0, Cell: 0, Dir: api.East})
	}
	missing := func(a *arguments) { a.post = a.post[1:] }
	refused(api.ErrState, func(a *arguments) { a.sites[1].Step = 0 })
	refused(api.ErrState, func(a *arguments) { a.sites[0].Step = 2 })
	refused(api.ErrState, func(a *arguments) { a.sites[1].Step = 0; missing(a) })
	refused(api.ErrWait, missing)
	refused(api.ErrWait, func(a *arguments) { a.post = a.post[:3] })
	refused(api.ErrWait, func(a *arguments) { a.post = nil })
	refused(api.ErrWait, func(a *arguments) { heavy(a); missing(a) })
	refused(api.ErrWait, func(a *arguments) { older(a); missing(a) })
	refused(api.ErrWait, func(a *arguments) { a.sites[0].Step, a.sites[1].Step = 2, 2 })
	refused(api.ErrState, older)
	refused(api.ErrState, func(a *arguments) { heavy(a); older(a) })
	refused(api.ErrState, func(a *arguments) { a.sites[0].Step, a.sites[1].Step = 0, 0 })
	refused(api.ErrLimit, heavy)
}

// TestMergeMass: cells and notes together may have MaxMass, and no more.
func TestMergeMass(t *testing.T) {
	a := right()
	a.sites[0].Cells, a.sites[1].Cells = []api.Cell{{1}, {2}}, []api.Cell{{}, {0, 0, 0, api.MaxMass - 9}}
	for i := range a.post {
		a.post[i].Count = i
	}
	g := done[api.Grid](t)(node.Merge(a.g, a.owner, a.sites, a.post))
	if n := massOf([]api.Site{{Cells: g.Cells}}, nil); n != api.MaxMass {
		t.Errorf("Merge = %v", g)
	}
	for i := range a.post {
		a.post[i].Count++
		wrong(t, a, api.ErrLimit, "Merge")
		a.post[i].Count--
	}
}
