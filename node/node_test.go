package node_test

import (
	"math"
	"slices"
	"testing"

	"slipstream/api"
	"slipstream/grid"
	"slipstream/node"
)

func TestValidMap(t *testing.T) {
	for _, x := range worlds() {
		if !node.ValidMap(x.g, x.owner) {
			t.Errorf("%v is not valid for %d by %d", x.owner, x.g.Wide, x.g.High)
		}
		for _, bad := range invalidMaps(x) {
			if node.ValidMap(x.g, bad) {
				t.Errorf("%v is valid for %d by %d", bad, x.g.Wide, x.g.High)
			}
		}
	}
	for _, g := range invalidGrids() {
		if node.ValidMap(g, make([]int, len(g.Cells))) || node.ValidMap(g, nil) || node.ValidMap(g, []int{0, 1}) {
			t.Errorf("a map is valid for the grid %v", g)
		}
	}
}

func TestSplit(t *testing.T) {
	for _, x := range worlds() {
		l := done[[]api.Site](t)(node.Split(x.g, x.owner))
		if !sameSites(l, x.split()) {
			t.Errorf("Split of %v among %v = %v", x.g, x.owner, l)
		}
		if !node.Valid(x.g, x.owner, l) {
			t.Errorf("the sites of %v among %v are not valid", x.g, x.owner)
		}
	}
}

// TestNobodyTwice: each cell is in one site, and the sites merged are the grid.
func TestNobodyTwice(t *testing.T) {
	for _, x := range worlds() {
		l := done[[]api.Site](t)(node.Split(x.g, x.owner))
		times := make([]int, len(x.owner))
		for _, s := range l {
			for _, i := range s.Index {
				times[i]++
			}
		}
		if slices.Min(times) != 1 || slices.Max(times) != 1 {
			t.Errorf("the cells of %v are in so many sites: %v", x.owner, times)
		}
		if g := done[api.Grid](t)(node.Merge(x.g, x.owner, l, nil)); !sameGrid(g, x.g) {
			t.Errorf("Merge(Split) among %v is another grid", x.owner)
		}
	}
}

func TestValid(t *testing.T) {
	for _, s := range states() {
		if !node.Valid(s.g, s.owner, s.sites) {
			t.Errorf("%v are not valid among %v", s.sites, s.owner)
		}
	}
	x := halves()
	good := x.split()
	full := x.split()
	full[0].Cells[1], full[1].Cells[0], full[1].Step = api.Cell{1, 2, 3, 4}, api.Cell{0, api.MaxMass - 10}, api.MaxStep
	full[0].Cells[0], full[1].Cells[1] = api.Cell{}, api.Cell{}
	if !node.Valid(x.g, x.owner, full) {
		t.Error("sites with a mass of MaxMass are not valid")
	}
	full[0].Cells[0][3]++
	for _, bad := range [][]api.Site{
		nil, {}, good[:1], good[1:], {good[1], good[0]}, {good[0], good[0]}, {good[1], good[1]}, append(slices.Clone(good), good[1]), {good[0], good[1], {}}, {{}, {}}, full,
		{good[0], {Node: 2, Index: good[1].Index, Cells: good[1].Cells}}, {{Node: 1, Index: good[0].Index, Cells: good[0].Cells}, good[1]}, {{Node: -1, Index: good[0].Index, Cells: good[0].Cells}, good[1]},
		{{Node: 0, Index: good[1].Index, Cells: good[1].Cells}, {Node: 1, Index: good[0].Index, Cells: good[0].Cells}}, {good[0], {Node: math.MaxInt}}, {{Node: math.MinInt}, good[1]},
	} {
		if node.Valid(x.g, x.owner, bad) {
			t.Errorf("%v are valid", bad)
		}
	}
	for _, bad := range invalidSites(good[0]) {
		if node.Valid(x.g, x.owner, []api.Site{bad, good[1]}) {
			t.Errorf("%v is valid", bad)
		}
	}
	for _, bad := range invalidSites(good[1]) {
		if node.Valid(x.g, x.owner, []api.Site{good[0], bad}) {
			t.Errorf("%v is valid", bad)
		}
	}
	for _, bad := range invalidMaps(x) {
		if node.Valid(x.g, bad, good) {
			t.Errorf("sites are valid for the map %v", bad)
		}
	}
	for _, bad := range invalidGrids() {
		if node.Valid(bad, x.owner, good) || node.Valid(bad, nil, nil) {
			t.Errorf("sites are valid for the grid %v", bad)
		}
	}
	// Other nodes of the map ask for other sites.
	if node.Valid(x.g, []int{0, 0, 2, 2}, good) || node.Valid(x.g, []int{0, 1, 1, 1}, good) || node.Valid(x.g, []int{0, 0, 0, 0}, good) {
		t.Error("sites are valid for another map")
	}
}

func TestValidPost(t *testing.T) {
	for _, s := range states() {
		if !node.ValidPost(s.g, s.owner, s.post) {
			t.Errorf("%v is not valid among %v", s.post, s.owner)
		}
	}
	x := halves()
	for _, good := range [][]api.Note{
		nil, {}, many(1), many(api.MaxNotes), x.allDue(api.MaxStep), {{Step: 3, From: 1, To: 0, Cell: 1, Dir: api.West, Count: api.MaxMass}},
		{{Step: 4, From: 1, To: 0, Cell: 1, Dir: api.West}, {Step: 3, From: 1, To: 0, Cell: 1, Dir: api.West}, {Step: 3, From: 1, To: 0, Cell: 0}},
		// All together may be more than MaxMass.
		{{Step: 1, From: 1, To: 0, Cell: 0, Count: api.MaxMass}, {Step: 1, From: 0, To: 1, Cell: 2, Count: api.MaxMass}},
	} {
		if !node.ValidPost(x.g, x.owner, good) {
			t.Errorf("a post of %d notes is not valid: %v", len(good), good[:min(len(good), 4)])
		}
	}
	for _, bad := range append(invalidPosts(), many(api.MaxNotes+1)) {
		if node.ValidPost(x.g, x.owner, bad) {
			t.Errorf("a post of %d notes is valid: %v", len(bad), bad[:min(len(bad), 4)])
		}
	}
	for _, bad := range invalidMaps(x) {
		if node.ValidPost(x.g, bad, nil) || node.ValidPost(x.g, bad, many(1)) {
			t.Errorf("a post is valid for the map %v", bad)
		}
	}
	for _, bad := range invalidGrids() {
		if node.ValidPost(bad, make([]int, len(bad.Cells)), nil) || node.ValidPost(bad, x.owner, many(1)) {
			t.Errorf("a post is valid for the grid %v", bad)
		}
	}
}

// TestValidPostOfAnyNumbers asks for all small notes one by one.
func TestValidPostOfAnyNumbers(t *testing.T) {
	for _, x := range []world{halves(), pair(), {filled(2, 2, 3, 1), []int{1, 0, 2, 1}}} {
		due := x.allDue(1)
		for i := range 3 * 4 * 4 * 6 * 6 {
			n := api.Note{Step: 1, From: i % 4, To: i / 4 % 4, Cell: i/16%6 - 1, Dir: i/96%6 - 1, Count: i/576 - 1}
			told := n
			told.Count = 0
			if want := slices.Contains(due, told) && n.Count >= 0; node.ValidPost(x.g, x.owner, []api.Note{n}) != want {
				t.Errorf("ValidPost(%v) among %v is not %v", n, x.owner, want)
			}
		}
	}
}

func TestDueExample(t *testing.T) {
	x := halves()
	l := done[[]api.Note](t)(node.Due(x.g, x.owner, 0, 7))
	if !slices.Equal(l, []api.Note{{Step: 7, From: 1, To: 0, Cell: 0, Dir: api.East}, {Step: 7, From: 1, To: 0, Cell: 1, Dir: api.West}}) {
		t.Errorf("Due = %v", l)
	}
	if n, e := node.Traffic(x.g, x.owner); n != 4 || e != api.OK {
		t.Errorf("Traffic = %d, %d", n, e)
	}
	// With two columns, and two rows, both neighbours are one cell.
	x = world{filled(2, 2, 3, 1), []int{3, 3, 6, 3}}
	l = done[[]api.Note](t)(node.Due(x.g, x.owner, 6, api.MaxStep))
	var want []api.Note
	for dir := range 4 {
		want = append(want, api.Note{Step: api.MaxStep, From: 3, To: 6, Cell: 2, Dir: dir})
	}
	if !slices.Equal(l, want) {
		t.Errorf("Due = %v", l)
	}
	// What goes round the sides into an own cell stays.
	x = world{filled(3, 1, 3, 1), []int{0, 0, 0}}
	if l := done[[]api.Note](t)(node.Due(x.g, x.owner, 0, 1)); len(l) != 0 {
		t.Errorf("Due = %v", l)
	}
}

func TestDueTrafficNeighbours(t *testing.T) {
	for _, x := range worlds() {
		sum := 0
		for _, to := range x.nodes() {
			want := x.due(to, 1)
			var from []int
			for _, n := range want {
				from = append(from, n.From)
			}
			slices.Sort(from)
			from = slices.Compact(from)
			for _, step := range []int{1, 2, api.MaxStep} {
				if l := done[[]api.Note](t)(node.Due(x.g, x.owner, to, step)); !slices.Equal(l, x.due(to, step)) {
					t.Errorf("Due to %d for %d among %v = %v", to, step, x.owner, l)
				}
			}
			if l := done[[]int](t)(node.Neighbours(x.g, x.owner, to)); !slices.Equal(l, from) {
				t.Errorf("Neighbours of %d among %v = %v, want %v", to, x.owner, l, from)
			}
			sum += len(want)
		}
		if n := done[int](t)(node.Traffic(x.g, x.owner)); n != sum {
			t.Errorf("Traffic among %v = %d, want %d", x.owner, n, sum)
		}
	}
}

func TestDueErrors(t *testing.T) {
	x := halves()
	for _, step := range []int{0, -1, api.MaxStep + 1, math.MinInt, math.MaxInt} {
		if l, e := node.Due(x.g, x.owner, 0, step); e != api.ErrRange || len(l) != 0 {
			t.Errorf("Due for %d = %v, %d", step, l, e)
		}
		for _, name := range []int{2, 7, 8, -1, math.MinInt, math.MaxInt} {
			if l, e := node.Due(x.g, x.owner, name, step); e != api.ErrName || len(l) != 0 {
				t.Errorf("Due to %d for %d = %v, %d", name, step, l, e)
			}
			if l, e := node.Neighbours(x.g, x.owner, name); e != api.ErrName || len(l) != 0 {
				t.Errorf("Neighbours of %d = %v, %d", name, l, e)
			}
		}
	}
}

// TestInvalid gives calls one argument that is not valid, or that and others for which there are later errors.
func TestInvalid(t *testing.T) {
	all := []string{"Split", "Due", "Ready", "Act", "Play", "Stuck", "Lost", "Merge", "Run", "Traffic", "Neighbours"}
	for _, later := range []bool{false, true} {
		with := func(change func(a *arguments), names ...string) {
			t.Helper()
			a := right()
			if later {
				a.node, a.step, a.order, a.sites[0].Step = 5, -1, []int{5}, 0
			}
			change(&a)
			wrong(t, a, api.ErrInvalid, names...)
		}
		for _, g := range invalidGrids() {
			with(func(a *arguments) { a.g = g }, all...)
			with(func(a *arguments) { a.g, a.owner = g, make([]int, len(g.Cells)) }, all...)
		}
		for _, owner := range invalidMaps(halves()) {
			with(func(a *arguments) { a.owner = owner }, all...)
		}
		for _, rules := range invalidRules() {
			with(func(a *arguments) { a.rules = rules }, "Act", "Play", "Run")
			with(func(a *arguments) { a.rules, a.site.Node = rules, 5 }, "Act")
		}
		for _, post := range invalidPosts() {
			with(func(a *arguments) { a.post = post }, "Ready", "Act", "Stuck", "Lost", "Merge")
			with(func(a *arguments) { a.post, a.site.Node = post, 5 }, "Ready", "Act")
		}
		for _, site := range invalidSites(right().site) {
			with(func(a *arguments) { a.site, a.post = site, nil }, "Ready", "Act")
			with(func(a *arguments) { a.sites[0] = site }, "Stuck", "Lost", "Merge")
		}
		with(func(a *arguments) { a.sites = a.sites[:1] }, "Stuck", "Lost", "Merge")
		with(func(a *arguments) { a.sites = nil }, "Stuck", "Lost", "Merge")
		with(func(a *arguments) { slices.Reverse(a.sites) }, "Stuck", "Lost", "Merge")
		with(func(a *arguments) { a.sites[1].Cells = []api.Cell{{api.MaxMass}, {}} }, "Stuck", "Lost", "Merge")
	}
	for _, o := range outcomes(right()) {
		if o.e != api.OK && !(o.name == "Stuck" && o.e == api.ErrNone) {
			t.Errorf("%s: error %d", o.name, o.e)
		}
	}
}

func TestColumns(t *testing.T) {
	for _, s := range sides() {
		g := filled(s[0], s[1], 3, 1)
		for _, cuts := range [][]int{nil, {}, {1}, {2}, {s[0] - 1}, {1, 2}, {2, 4}, {1, s[0] - 1}, {1, 2, 3, 4, 5, 6, 7}, {9, 20, 21, 30, 31, 60, 63}} {
			fits := true
			for at, cut := range cuts {
				fits = fits && cut >= 1 && cut < s[0] && (at == 0 || cuts[at-1] < cut)
			}
			owner, e := node.Columns(g, cuts)
			if !fits {
				if e != api.ErrRange || len(owner) != 0 {
					t.Errorf("Columns of %v at %v = %v, %d", s, cuts, owner, e)
				}
				continue
			}
			if e != api.OK || len(owner) != len(g.Cells) || !node.ValidMap(g, owner) {
				t.Fatalf("Columns of %v at %v = %v, %d", s, cuts, owner, e)
			}
			for i, to := range owner {
				// The node's first column is at or before this one, and its last one is at or behind it.
				if x := i % s[0]; to > 0 && cuts[to-1] > x || to < len(cuts) && cuts[to] <= x {
					t.Errorf("Columns of %v at %v gives the cell %d to %d", s, cuts, i, to)
				}
			}
		}
	}
	g := filled(12, 2, 3, 1)
	for _, bad := range [][]int{
		{0}, {12}, {13}, {-1}, {1, 1}, {2, 1}, {1, 12}, {0, 1}, {3, 5, 5}, {1, 2, 3, 4, 5, 6, 7, 8}, {1, 2, 3, 4, 5, 6, 7, 8, 9}, {math.MinInt}, {math.MaxInt}, {1, math.MinInt}, {1, math.MaxInt}, make([]int, 100),
	} {
		if owner, e := node.Columns(g, bad); e != api.ErrRange || len(owner) != 0 {
			t.Errorf("Columns at %v = %v, %d", bad, owner, e)
		}
		for _, g := range invalidGrids() {
			if owner, e := node.Columns(g, bad); e != api.ErrInvalid || len(owner) != 0 {
				t.Errorf("Columns of %v at %v = %v, %d", g, bad, owner, e)
			}
		}
	}
	for _, g := range invalidGrids() {
		if owner, e := node.Columns(g, nil); e != api.ErrInvalid || len(owner) != 0 {
			t.Errorf("Columns of %v = %v, %d", g, owner, e)
		}
	}
}

func TestMass(t *testing.T) {
	for _, s := range states() {
		want := massOf(s.sites, s.post)
		if want > api.MaxMass {
			want = 0
		}
		if n := node.Mass(s.sites, s.post); n != want {
			t.Errorf("Mass(%v, %v) = %d, want %d", s.sites, s.post, n, want)
		}
	}
	site := func(cells ...api.Cell) api.Site { return api.Site{Cells: cells} }
	for _, c := range []struct {
		l    []api.Site
		post []api.Note
		want int
	}{
		{nil, nil, 0},
		{[]api.Site{site()}, []api.Note{{}}, 0},
		{[]api.Site{site(api.Cell{1, 2, 3, 4}, api.Cell{5}), {Node: 99, Step: -4, Index: []int{-7}, Cells: []api.Cell{{0, 0, 0, 6}}}}, []api.Note{{Count: 7}, {Step: -1, From: -1, To: -1, Cell: -1, Dir: -1, Count: 8}}, 36},
		{[]api.Site{site(api.Cell{api.MaxMass})}, nil, api.MaxMass},
		{nil, []api.Note{{Count: api.MaxMass}}, api.MaxMass},
		{[]api.Site{site(api.Cell{0, 1})}, []api.Note{{Count: api.MaxMass - 1}}, api.MaxMass},
		{[]api.Site{site(api.Cell{0, 1})}, []api.Note{{Count: api.MaxMass}}, 0},
		{[]api.Site{site(api.Cell{api.MaxMass}), site(api.Cell{0, 0, 0, 1})}, nil, 0},
		{nil, []api.Note{{Count: api.MaxMass}, {Count: 1}}, 0},
		{nil, []api.Note{{Count: api.MaxMass + 1}}, 0},
		{nil, []api.Note{{Count: 5}, {Count: -1}}, 0},
		{nil, []api.Note{{Count: -1}, {Count: 5}}, 0},
		{[]api.Site{site(api.Cell{5, -1})}, []api.Note{{Count: 5}}, 0},
		{[]api.Site{site(api.Cell{5}, api.Cell{-1})}, nil, 0},
		{[]api.Site{site(api.Cell{api.MaxMass, 1, -1})}, nil, 0},
		{[]api.Site{site(api.Cell{math.MaxInt, math.MaxInt, 2, 5})}, nil, 0},
		{[]api.Site{site(api.Cell{1 << 62, 1 << 62, 1 << 62, 1 << 62})}, []api.Note{{Count: 3}}, 0},
		{nil, []api.Note{{Count: math.MaxInt}, {Count: math.MaxInt}, {Count: 7}}, 0},
		{nil, []api.Note{{Count: math.MinInt}, {Count: math.MinInt}, {Count: 7}}, 0},
	} {
		if n := node.Mass(c.l, c.post); n != c.want {
			t.Errorf("Mass(%v, %v) = %d, want %d", c.l, c.post, n, c.want)
		}
	}
}

// TestGridOnlyTellsSides: where there are sites, the grid's own cells do not count.
func TestGridOnlyTellsSides(t *testing.T) {
	empty := done[api.Grid](t)(grid.Empty(4, 1))
	full := right()
	a := right()
	a.g = empty
	s, post, e := node.Act(a.g, a.owner, a.rules, a.site, a.post)
	want, left, _ := node.Act(full.g, a.owner, a.rules, a.site, a.post)
	if e != api.OK || !sameSite(s, want) || !slices.Equal(post, left) {
		t.Errorf("Act = %v, %v, %d", s, post, e)
	}
	g := done[api.Grid](t)(node.Merge(full.g, a.owner, a.sites, a.post))
	if h := done[api.Grid](t)(node.Merge(empty, a.owner, a.sites, a.post)); !sameGrid(g, h) {
		t.Errorf("Merge = %v and %v", g, h)
	}
}
