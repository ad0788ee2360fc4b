package node_test

import (
	"math"
	"slices"
	"testing"

	"slipstream/api"
	"slipstream/node"
)

// TestActExample: in the first half of four cells a particle stays in its node, and two go to the other one.
func TestActExample(t *testing.T) {
	x := world{api.Grid{Wide: 4, High: 1, Cells: []api.Cell{{1, 2, 3, 0}, {4, 0, 5, 6}, {}, {}}}, []int{0, 0, 1, 1}}
	s, post, e := node.Act(x.g, x.owner, []api.Rule{none()}, x.split()[0], nil)
	want := api.Site{Node: 0, Step: 1, Index: []int{0, 1}, Cells: []api.Cell{{0, 2, 5, 0}, {1, 0, 0, 6}}}
	sent := []api.Note{{Step: 1, From: 0, To: 1, Cell: 2, Dir: api.East, Count: 4}, {Step: 1, From: 0, To: 1, Cell: 3, Dir: api.West, Count: 3}}
	if e != api.OK || !sameSite(s, want) || !slices.Equal(post, sent) {
		t.Errorf("Act = %v, %v, %d", s, post, e)
	}
	// The notes are used before the cells collide: what has come meets what was there.
	in := []api.Note{{Step: 1, From: 1, To: 0, Cell: 1, Dir: api.West, Count: 1}, sent[0], {Step: 1, From: 1, To: 0, Cell: 0, Dir: api.East}, {Step: 2, From: 1, To: 0, Cell: 0, Dir: api.East, Count: 9}}
	s, post, e = node.Act(x.g, x.owner, []api.Rule{none(), turn()}, s, in)
	want = api.Site{Node: 0, Step: 2, Index: []int{0, 1}, Cells: []api.Cell{{0, 2, 0, 0}, {0, 1, 0, 7}}}
	left := []api.Note{sent[0], {Step: 2, From: 1, To: 0, Cell: 0, Dir: api.East, Count: 9}, {Step: 2, From: 0, To: 1, Cell: 2, Dir: api.East}, {Step: 2, From: 0, To: 1, Cell: 3, Dir: api.West, Count: 5}}
	if e != api.OK || !sameSite(s, want) || !slices.Equal(post, left) {
		t.Errorf("Act = %v, %v, %d", s, post, e)
	}
}

// TestReadyAndAct compares them with what the chapter writes, in all kinds of states: also that mass is kept, and that a node is not ready exactly if something due is not there.
func TestReadyAndAct(t *testing.T) {
	waited, did := 0, 0
	for at, x := range states() {
		l := validRules()[at%6]
		for _, s := range x.sites {
			ok := done[bool](t)(node.Ready(x.g, x.owner, s, x.post))
			if ok != x.ready(s, x.post) {
				t.Fatalf("Ready(%v, %v) among %v = %v", s, x.post, x.owner, ok)
			}
			after, post, e := node.Act(x.g, x.owner, l, s, x.post)
			if !ok {
				if waited++; e != api.ErrWait || !isZeroSite(after) || len(post) != 0 {
					t.Fatalf("Act(%v, %v) among %v = %v, %v, %d", s, x.post, x.owner, after, post, e)
				}
				continue
			}
			did++
			if massOf([]api.Site{s}, x.post) > api.MaxMass {
				// What the node uses may be too much; TestActMass tells when.
				continue
			}
			want, left := x.acts(l, s, x.post)
			if e != api.OK || !sameSite(after, want) || !slices.Equal(post, left) {
				t.Fatalf("Act(%v, %v) among %v by %v = %v, %v, %d, want %v, %v", s, x.post, x.owner, l, after, post, e, want, left)
			}
			if node.Mass([]api.Site{s}, x.post) != node.Mass([]api.Site{after}, post) {
				t.Fatalf("Act(%v, %v) among %v does not keep the mass", s, x.post, x.owner)
			}
		}
	}
	if waited < 100 || did < 100 {
		t.Errorf("%d waited, %d acted", waited, did)
	}
}

// TestSent: the notes that a node sends are just those that are due from it.
func TestSent(t *testing.T) {
	for _, x := range worlds() {
		for _, s := range x.split() {
			_, post, e := node.Act(x.g, x.owner, []api.Rule{turn()}, s, nil)
			for at := range post {
				post[at].Count = 0
			}
			var due []api.Note
			for _, to := range x.nodes() {
				for _, n := range done[[]api.Note](t)(node.Due(x.g, x.owner, to, 1)) {
					if n.From == s.Node {
						due = append(due, n)
					}
				}
			}
			if e != api.OK || !slices.Equal(post, due) {
				t.Errorf("%d sends among %v: %v, %d", s.Node, x.owner, post, e)
			}
		}
	}
}

func TestReadyAndActErrors(t *testing.T) {
	for _, name := range []int{2, 7, 8, -1, math.MinInt, math.MaxInt} {
		a := right()
		a.site.Node = name
		wrong(t, a, api.ErrName, "Ready", "Act")
		a.site = api.Site{Node: name, Step: -1}
		wrong(t, a, api.ErrName, "Ready", "Act")
	}
	for at := range right().post {
		a := right()
		a.post = slices.Delete(a.post, at, at+1)
		waits := right().post[at].To == 0
		if ok, e := node.Ready(a.g, a.owner, a.site, a.post); ok == waits || e != api.OK {
			t.Errorf("Ready without the note %d = %v, %d", at, ok, e)
		}
		if _, _, e := node.Act(a.g, a.owner, a.rules, a.site, a.post); (e == api.ErrWait) != waits {
			t.Errorf("Act without the note %d: error %d", at, e)
		}
	}
	// Notes of other steps do not help.
	a := right()
	a.site.Step = 2
	wrong(t, a, api.ErrWait, "Act")
	a.site.Step = api.MaxStep
	wrong(t, a, api.ErrWait, "Act")
	// In the last step nobody can act any more, but all can be ready.
	a.post = halves().allDue(api.MaxStep)
	wrong(t, a, api.ErrLimit, "Act")
	if ok, e := node.Ready(a.g, a.owner, a.site, a.post); !ok || e != api.OK {
		t.Errorf("Ready at MaxStep = %v, %d", ok, e)
	}
	a.site.Step, a.post = api.MaxStep-1, halves().allDue(api.MaxStep-1)
	if s, post, e := node.Act(a.g, a.owner, a.rules, a.site, a.post); e != api.OK || s.Step != api.MaxStep || !node.ValidPost(a.g, a.owner, post) {
		t.Errorf("Act at MaxStep - 1 = %v, %v, %d", s, post, e)
	}
}

// TestActMass: the notes that are used count for the mass of the cells, and no others.
func TestActMass(t *testing.T) {
	a := right()
	a.site.Cells = []api.Cell{{api.MaxMass - 9, 1, 1, 1}, {}}
	for i := range a.post {
		a.post[i].Count = 3
	}
	s, post, e := node.Act(a.g, a.owner, a.rules, a.site, a.post)
	if e != api.OK || massOf([]api.Site{s}, post) != api.MaxMass+6 {
		t.Errorf("Act = %v, %v, %d", s, post, e)
	}
	for i := range a.post {
		// Only some are for the node.
		more := slices.Clone(a.post)
		more[i].Count++
		_, _, e := node.Act(a.g, a.owner, a.rules, a.site, more)
		if want := a.post[i].To == 0; (e == api.ErrLimit) != want || !want && e != api.OK {
			t.Errorf("Act with %v: error %d", more, e)
		}
		more[i].Count = api.MaxMass
		if _, _, e := node.Act(a.g, a.owner, a.rules, a.site, more); (e == api.ErrLimit) != (a.post[i].To == 0) {
			t.Errorf("Act with %v: error %d", more, e)
		}
	}
	a.post = append(a.post, api.Note{Step: 2, From: 1, To: 0, Cell: 0, Dir: api.East, Count: api.MaxMass})
	if _, _, e := node.Act(a.g, a.owner, a.rules, a.site, a.post); e != api.OK {
		t.Errorf("Act with a heavy note for a later step: error %d", e)
	}
	a.post[slices.IndexFunc(a.post, func(n api.Note) bool { return n.To == 0 && n.Step == 1 })].Count = 4
	wrong(t, a, api.ErrLimit, "Act")
	a.post = slices.DeleteFunc(a.post, func(n api.Note) bool { return n.To == 0 && n.Count == 3 })
	wrong(t, a, api.ErrWait, "Act")
}

// TestActNotes: a node of halves sends two notes; in its first step it uses none, and later on two.
func TestActNotes(t *testing.T) {
	x := halves()
	first := x.split()[0]
	for count, want := range map[int]api.Errno{0: api.OK, api.MaxNotes - 2: api.OK, api.MaxNotes - 1: api.ErrLimit, api.MaxNotes: api.ErrLimit} {
		s, post, e := node.Act(x.g, x.owner, []api.Rule{turn()}, first, manyFrom(2, count))
		if e != want || e != api.OK && (!isZeroSite(s) || len(post) != 0) || e == api.OK && len(post) != count+2 {
			t.Errorf("Act with %d notes: %v, %d notes, error %d", count, s, len(post), e)
		}
	}
	later := first
	later.Step = 5
	for _, count := range []int{api.MaxNotes - 1, api.MaxNotes} {
		s, post, e := node.Act(x.g, x.owner, []api.Rule{turn()}, later, many(count))
		if e != api.OK || s.Step != 6 || len(post) != count {
			t.Errorf("Act with %d notes: %v, %d notes, error %d", count, s, len(post), e)
		}
	}
}

func TestStuck(t *testing.T) {
	told := map[api.Errno]int{}
	for _, x := range states() {
		for n := range 6 {
			var want []int
			e := api.ErrNone
			for _, s := range x.sites {
				if s.Step < n {
					want = append(want, s.Node)
					if e == api.ErrNone {
						e = api.OK
					}
					if x.ready(s, x.post) {
						e = api.ErrState
					}
				}
			}
			if e != api.OK {
				want = nil
			}
			told[e]++
			if l, got := node.Stuck(x.g, x.owner, x.sites, x.post, n); got != e || !slices.Equal(l, want) {
				t.Fatalf("Stuck(%v, %v, %d) among %v = %v, %d, want %v, %d", x.sites, x.post, n, x.owner, l, got, want, e)
			}
			lost := done[[]api.Note](t)(node.Lost(x.g, x.owner, x.sites, x.post))
			if e == api.OK && len(lost) == 0 {
				t.Fatalf("%v of %v are stuck with %v, but nothing is lost", want, x.sites, x.post)
			}
		}
	}
	if told[api.OK] < 50 || told[api.ErrState] < 50 || told[api.ErrNone] < 50 {
		t.Errorf("Stuck gave so many results of a kind: %v", told)
	}
	for _, n := range []int{-1, api.MaxStep + 1, math.MinInt, math.MaxInt} {
		a := right()
		a.step = n
		wrong(t, a, api.ErrRange, "Stuck")
	}
	a := right()
	a.step = 0
	wrong(t, a, api.ErrNone, "Stuck")
	a.sites[0].Step, a.sites[1].Step, a.step = api.MaxStep, api.MaxStep, api.MaxStep
	wrong(t, a, api.ErrNone, "Stuck")
	a.sites[0].Step--
	if l, e := node.Stuck(a.g, a.owner, a.sites, a.post, api.MaxStep); e != api.OK || !slices.Equal(l, []int{0}) {
		t.Errorf("Stuck at MaxStep - 1 = %v, %d", l, e)
	}
}
