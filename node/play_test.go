package node_test

import (
	"math"
	"slices"
	"testing"

	"slipstream/api"
	"slipstream/grid"
	"slipstream/node"
)

// TestPlayExample: with the order 0 0 1 the second 0 does nothing.
func TestPlayExample(t *testing.T) {
	x, l := halves(), []api.Rule{turn()}
	for _, c := range []struct {
		n             int
		order         []int
		first, second int
		acted         int
	}{
		{9, []int{0, 0, 1}, 1, 1, 2},
		{9, nil, 0, 0, 0},
		{0, []int{0, 1, 1}, 0, 0, 0},
		{1, []int{0, 0, 1, 1, 0}, 1, 1, 2},
		{9, []int{0, 0, 1, 1, 0, 1, 0}, 3, 3, 6},
		{9, []int{1, 0, 0, 0, 1}, 2, 2, 4},
		{2, []int{1, 0, 1, 1, 0, 0, 1}, 2, 2, 4},
	} {
		s, post, acted, e := node.Play(x.g, x.owner, l, c.n, c.order)
		if e != api.OK || acted != c.acted || len(s) != 2 || s[0].Step != c.first || s[1].Step != c.second {
			t.Fatalf("Play(%d, %v) = %v, %d, %d", c.n, c.order, s, acted, e)
		}
		want, _ := x.started().next(l, c.n, c.order...)
		if !sameSites(s, want.sites) || !slices.Equal(post, want.post) {
			t.Errorf("Play(%d, %v) = %v, %v, want %v, %v", c.n, c.order, s, post, want.sites, want.post)
		}
	}
}

// TestPlayAsWritten compares Play with what the chapter writes, for orders that look thrown; nothing is ever lost in it, and mass is kept.
func TestPlayAsWritten(t *testing.T) {
	next := thrown(5)
	for at, x := range smallWorlds() {
		l := validRules()[at%6]
		for _, count := range []int{1, 5, 20, 60} {
			n, order := next(6), x.order(count, next)
			s, post, acted, e := node.Play(x.g, x.owner, l, n, order)
			want, did := x.started().next(l, n, order...)
			if e != api.OK || acted != did || !sameSites(s, want.sites) || !slices.Equal(post, want.post) {
				t.Fatalf("Play of %v among %v by %v, %d, %v = %v, %v, %d, %d, want %v, %v, %d", x.g, x.owner, l, n, order, s, post, acted, e, want.sites, want.post, did)
			}
			if lost := done[[]api.Note](t)(node.Lost(x.g, x.owner, s, post)); len(lost) != 0 {
				t.Errorf("in a Play of %v is lost: %v", order, lost)
			}
			if mass := done[int](t)(grid.Mass(x.g)); node.Mass(s, post) != mass {
				t.Errorf("Play of %v keeps not the mass %d", order, mass)
			}
		}
	}
}

// rounds returns an order in which all nodes come to n steps, whatever the map, with other nodes thrown in between.
func (x world) rounds(n int, next func(most int) int) []int {
	var l []int
	for range n {
		nodes := x.nodes()
		if next(2) == 0 {
			slices.Reverse(nodes)
		}
		l = append(l, nodes...)
		l = append(l, x.order(next(5), next)...)
	}
	return l
}

// TestAnyOrder: all orders in which all come to n steps end with the same sites and post, and these merged are the grid after n steps.
func TestAnyOrder(t *testing.T) {
	next := thrown(9)
	for at, x := range smallWorlds() {
		l, n := validRules()[at%6], next(8)
		s, post, _, e := node.Play(x.g, x.owner, l, n, x.rounds(n, next))
		if e != api.OK {
			t.Fatalf("Play: error %d", e)
		}
		g := done[api.Grid](t)(node.Merge(x.g, x.owner, s, post))
		if want := done[api.Grid](t)(grid.Run(x.g, l, 0, n)); !sameGrid(g, want) {
			t.Errorf("Play of %d steps among %v, merged, is another grid than Run's", n, x.owner)
		}
		for range 4 {
			other, left, acted, e := node.Play(x.g, x.owner, l, n, x.rounds(n, next))
			if e != api.OK || acted != n*len(x.nodes()) || !sameSites(s, other) || !slices.Equal(post, left) {
				t.Errorf("Play of %d steps among %v ends in another way in another order", n, x.owner)
			}
		}
	}
}

// TestRunAhead: of nodes in a row each one goes as far as it can, before the next one does.
func TestRunAhead(t *testing.T) {
	x := world{filled(16, 1, 9, 4), nil}
	for i := range 16 {
		x.owner = append(x.owner, i/2)
	}
	order := slices.Concat(slices.Repeat([]int{0}, 9), slices.Repeat([]int{7, 1, 6, 2, 5, 3, 4}, 3), slices.Repeat([]int{4}, 5))
	s, post, acted, e := node.Play(x.g, x.owner, []api.Rule{shift(2)}, 50, order)
	want, did := x.started().next([]api.Rule{shift(2)}, 50, order...)
	if e != api.OK || acted != did || !sameSites(s, want.sites) || !slices.Equal(post, want.post) {
		t.Errorf("Play = %v, %v, %d, %d", s, post, acted, e)
	}
}

func TestPlayLimits(t *testing.T) {
	x := pair()
	l := []api.Rule{turn(), shift(1)}
	order := slices.Repeat([]int{0, 1}, 1000)
	s, post, acted, e := node.Play(x.g, x.owner, l, api.MaxSteps, order)
	if e != api.OK || acted != 2000 || s[0].Step != 1000 || s[1].Step != 1000 || len(post) != 4 {
		t.Errorf("Play = %v, %v, %d, %d", s, post, acted, e)
	}
	if g := done[api.Grid](t)(node.Merge(x.g, x.owner, s, post)); !sameGrid(g, done[api.Grid](t)(grid.Run(x.g, l, 0, 1000))) {
		t.Errorf("Play of 1000 steps gives %v", g)
	}
	refused := func(want api.Errno, n int, order []int) {
		t.Helper()
		s, post, acted, e := node.Play(x.g, x.owner, l, n, order)
		if e != want || len(s) != 0 || len(post) != 0 || acted != 0 {
			t.Errorf("Play(%d, %d nodes) = %v, %v, %d, %d, want %d", n, len(order), s, post, acted, e, want)
		}
	}
	refused(api.ErrRange, 5, append(slices.Clone(order), 0))
	refused(api.ErrName, 5, append(slices.Clone(order), 2))
	for _, n := range []int{-1, api.MaxSteps + 1, math.MinInt, math.MaxInt} {
		refused(api.ErrRange, n, nil)
		refused(api.ErrRange, n, order)
		refused(api.ErrName, n, []int{0, 1, 2})
	}
	for _, name := range []int{2, 7, 8, -1, math.MinInt, math.MaxInt} {
		refused(api.ErrName, 5, []int{name})
		refused(api.ErrName, 0, []int{0, name, 1})
		refused(api.ErrName, 5, append(slices.Clone(order[1:]), name))
	}
}

// TestRun: on any map it is grid.Run.
func TestRun(t *testing.T) {
	for at, x := range worlds() {
		for i, l := range validRules() {
			if len(x.owner) > 100 && (at+i)%5 != 0 {
				continue
			}
			for _, n := range []int{0, 1, 2, 3, 7} {
				g := done[api.Grid](t)(node.Run(x.g, x.owner, l, n))
				if want := done[api.Grid](t)(grid.Run(x.g, l, 0, n)); !sameGrid(g, want) {
					t.Fatalf("Run of %d steps of %d by %d among %v by %v is not that of layer 2", n, x.g.Wide, x.g.High, x.owner, l)
				}
			}
		}
	}
	x := world{filled(5, 4, 30, 3), slices.Repeat([]int{0, 0, 7, 7, 3}, 4)}
	l := validRules()[5]
	if g := done[api.Grid](t)(node.Run(x.g, x.owner, l, api.MaxSteps)); !sameGrid(g, done[api.Grid](t)(grid.Run(x.g, l, 0, api.MaxSteps))) {
		t.Error("Run of 1000 steps is not that of layer 2")
	}
	for _, n := range []int{-1, api.MaxSteps + 1, math.MinInt, math.MaxInt} {
		a := right()
		a.step = n
		wrong(t, a, api.ErrRange, "Run", "Play")
	}
}
