package node_test

import (
	"cmp"
	"math"
	"slices"
	"testing"

	"slipstream/api"
	"slipstream/cell"
	"slipstream/node"
)

func none() api.Rule { return api.Rule{Kind: api.RNone} }

func turn() api.Rule { return api.Rule{Kind: api.RTurn} }

func shift(by int) api.Rule { return api.Rule{Kind: api.RShift, By: by} }

func validRules() [][]api.Rule {
	return [][]api.Rule{
		{none()}, {turn()}, {shift(1)}, {turn(), none()}, {shift(3), turn(), shift(-2)},
		{none(), turn(), shift(1), shift(2), shift(3), shift(-7), turn(), shift(123456789)},
	}
}

func invalidRules() [][]api.Rule {
	return [][]api.Rule{
		nil, {}, make([]api.Rule, api.MaxRules+1), {{Kind: 3}}, {{Kind: -1}}, {{Kind: api.RNone, By: 1}},
		{shift(api.MaxMass + 1)}, {turn(), none(), {Kind: 3}}, {shift(math.MinInt), turn()},
	}
}

// thrown returns numbers from 0 to most-1 that look as if they were thrown; seed tells which.
func thrown(seed uint64) func(most int) int {
	return func(most int) int {
		seed = seed*6364136223846793005 + 1442695040888963407
		return int(seed>>33) % most
	}
}

// filled returns a grid with populations from 0 to most-1.
func filled(wide, high, most int, seed uint64) api.Grid {
	next := thrown(seed)
	g := api.Grid{Wide: wide, High: high, Cells: make([]api.Cell, wide*high)}
	for i := range g.Cells {
		for dir := range 4 {
			g.Cells[i][dir] = next(most)
		}
	}
	return g
}

// world is a valid grid with a valid map.
type world struct {
	g     api.Grid
	owner []int
}

// halves is the example of the chapter: four cells in a row, of two nodes.
func halves() world {
	return world{filled(4, 1, 9, 1), []int{0, 0, 1, 1}}
}

// pair is two cells, each of which is a node's own.
func pair() world {
	return world{filled(2, 1, 9, 2), []int{0, 1}}
}

// maps returns maps of all kinds for a grid's sides: one node, halves, rows, columns, cells by turns, and such as look thrown.
func maps(wide, high int, seed uint64) [][]int {
	next := thrown(seed)
	const kinds = 9
	l := make([][]int, kinds)
	for i := range wide * high {
		x, y := i%wide, i/wide
		for at, node := range [kinds]int{0, 7, x * 2 / wide, 7 - y%4, x % 8, (x + y) % 2 * 5, 3 + i%3, next(8), next(2)*4 + 2} {
			l[at] = append(l[at], node)
		}
	}
	return l
}

func sides() [][2]int {
	return [][2]int{{1, 1}, {1, 2}, {2, 1}, {2, 2}, {1, 5}, {5, 1}, {3, 2}, {2, 3}, {3, 3}, {4, 3}, {3, 5}, {7, 7}, {1, 64}, {64, 1}, {64, 16}, {16, 64}, {32, 32}}
}

func worlds() []world {
	var l []world
	for i, s := range sides() {
		seed := uint64(31 * i)
		full := filled(s[0], s[1], 1, 0)
		full.Cells[len(full.Cells)-1] = api.Cell{250000001, 249999999, 250000000, 249999990}
		full.Cells[0][i%4] += 10
		grids := []api.Grid{filled(s[0], s[1], 1, 0), filled(s[0], s[1], 2, seed), filled(s[0], s[1], 9, seed+1), filled(s[0], s[1], 200000, seed+2), full}
		for j, owner := range maps(s[0], s[1], seed+3) {
			l = append(l, world{grids[j%len(grids)], owner}, world{grids[(j+2)%len(grids)], owner})
		}
	}
	return l
}

func smallWorlds() []world {
	return slices.DeleteFunc(worlds(), func(x world) bool { return len(x.owner) > 20 })
}

func invalidGrids() []api.Grid {
	return []api.Grid{
		{}, {Wide: 1, High: 1}, {Wide: 0, High: 1}, {Wide: -1, High: -1, Cells: make([]api.Cell, 1)}, {Wide: 2, High: 1, Cells: make([]api.Cell, 1)},
		{Wide: 2, High: 1, Cells: make([]api.Cell, 3)}, {Wide: 65, High: 1, Cells: make([]api.Cell, 65)}, {Wide: 64, High: 17, Cells: make([]api.Cell, 64*17)},
		{Wide: math.MaxInt, High: math.MaxInt, Cells: make([]api.Cell, 1)}, {Wide: 2, High: 1, Cells: []api.Cell{{}, {0, 0, -1}}},
		{Wide: 2, High: 1, Cells: []api.Cell{{api.MaxMass}, {0, 1}}}, {Wide: 1, High: 1, Cells: []api.Cell{{math.MaxInt, math.MaxInt, 2}}},
	}
}

// invalidMaps are such for the sides of a world.
func invalidMaps(x world) [][]int {
	l := [][]int{nil, x.owner[1:], append(slices.Clone(x.owner), 0)}
	for _, bad := range []int{-1, api.MaxNodes, math.MinInt, math.MaxInt} {
		for _, at := range []int{0, len(x.owner) - 1} {
			owner := slices.Clone(x.owner)
			owner[at] = bad
			l = append(l, owner)
		}
	}
	return l
}

func mod(n, m int) int { return (n%m + m) % m }

// source is the cell from which particles come into the cell i in a direction.
func source(g api.Grid, i, dir int) int {
	x, y := i%g.Wide, i/g.Wide
	switch dir {
	case api.East:
		x--
	case api.North:
		y--
	case api.West:
		x++
	case api.South:
		y++
	}
	return mod(x, g.Wide) + g.Wide*mod(y, g.High)
}

// nodes returns the nodes that own something, ascending.
func (x world) nodes() []int {
	return slices.Compact(slices.Sorted(slices.Values(x.owner)))
}

// due returns the notes due to a node for a step as section 'Nodes and messages' writes it.
func (x world) due(node, step int) []api.Note {
	var l []api.Note
	for i, owner := range x.owner {
		for dir := range 4 {
			if from := x.owner[source(x.g, i, dir)]; owner == node && from != node {
				l = append(l, api.Note{Step: step, From: from, To: node, Cell: i, Dir: dir})
			}
		}
	}
	return l
}

// allDue returns the notes due to all nodes for a step.
func (x world) allDue(step int) []api.Note {
	var l []api.Note
	for _, node := range x.nodes() {
		l = append(l, x.due(node, step)...)
	}
	return l
}

// split returns a site for each node as the chapter writes it.
func (x world) split() []api.Site {
	var l []api.Site
	for _, node := range x.nodes() {
		s := api.Site{Node: node}
		for i, owner := range x.owner {
			if owner == node {
				s.Index, s.Cells = append(s.Index, i), append(s.Cells, x.g.Cells[i])
			}
		}
		l = append(l, s)
	}
	return l
}

// has reports whether a note for the same Step, Cell and Dir is in a post.
func has(post []api.Note, n api.Note) bool {
	return slices.ContainsFunc(post, func(m api.Note) bool { return m.Step == n.Step && m.Cell == n.Cell && m.Dir == n.Dir })
}

// ready tells it as the chapter writes it.
func (x world) ready(s api.Site, post []api.Note) bool {
	missing := func(n api.Note) bool { return !has(post, n) }
	return s.Step == 0 || !slices.ContainsFunc(x.due(s.Node, s.Step), missing)
}

// acts lets a node that is ready act as the chapter writes it.
func (x world) acts(l []api.Rule, s api.Site, post []api.Note) (api.Site, []api.Note) {
	cells := make([]api.Cell, len(x.owner))
	for at, i := range s.Index {
		cells[i] = s.Cells[at]
	}
	var left []api.Note
	for _, n := range post {
		if n.To == s.Node && n.Step == s.Step {
			cells[n.Cell][n.Dir] += n.Count
		} else {
			left = append(left, n)
		}
	}
	for i := range cells {
		cells[i], _ = cell.Collide(cells[i], l[s.Step%len(l)])
	}
	after := api.Site{Node: s.Node, Step: s.Step + 1, Index: s.Index}
	for i, owner := range x.owner {
		var c api.Cell
		for dir := range 4 {
			from := source(x.g, i, dir)
			if x.owner[from] == s.Node {
				c[dir] = cells[from][dir]
			}
			if x.owner[from] == s.Node && owner != s.Node {
				left = append(left, api.Note{Step: s.Step + 1, From: s.Node, To: owner, Cell: i, Dir: dir, Count: c[dir]})
			}
		}
		if owner == s.Node {
			after.Cells = append(after.Cells, c)
		}
	}
	return after, sorted(left)
}

// sorted returns notes in the order that section 5.4 writes.
func sorted(post []api.Note) []api.Note {
	return slices.SortedFunc(slices.Values(post), func(a, b api.Note) int {
		return cmp.Or(a.Step-b.Step, a.To-b.To, a.Cell-b.Cell, a.Dir-b.Dir, a.From-b.From, a.Count-b.Count)
	})
}

// massOf is that of all cells and notes.
func massOf(l []api.Site, post []api.Note) int {
	n := 0
	for _, s := range l {
		for _, c := range s.Cells {
			n += c[0] + c[1] + c[2] + c[3]
		}
	}
	for _, m := range post {
		n += m.Count
	}
	return n
}

// state is the sites of a world with a post, all valid.
type state struct {
	world
	sites []api.Site
	post  []api.Note
}

// started is the state of a world before the first step.
func (x world) started() state {
	return state{x, x.split(), nil}
}

// next lets the nodes of an order act as the chapter writes it, each until it has gone n steps, and returns how many did.
func (x state) next(l []api.Rule, n int, order ...int) (state, int) {
	x.sites = slices.Clone(x.sites)
	acted := 0
	for _, node := range order {
		at := slices.Index(x.nodes(), node)
		if x.sites[at].Step < n && x.ready(x.sites[at], x.post) {
			x.sites[at], x.post = x.acts(l, x.sites[at], x.post)
			acted++
		}
	}
	return x, acted
}

// order returns so many of a world's nodes as if they were thrown.
func (x world) order(count int, next func(most int) int) []int {
	var l []int
	nodes := x.nodes()
	for range count {
		l = append(l, nodes[next(len(nodes))])
	}
	return l
}

// states returns states of all kinds for small worlds: as they come when nodes act in some order, with notes taken out, with others put in, and with steps and notes that no run gives.
func states() []state {
	var l []state
	next := thrown(77)
	for i, x := range smallWorlds() {
		s := x.started()
		for range 4 {
			s, _ = s.next(validRules()[i%6], 9, x.order(1+next(9), next)...)
			l = append(l, s)
			some := s
			some.post = slices.DeleteFunc(slices.Clone(s.post), func(api.Note) bool { return next(5) == 0 })
			l = append(l, some)
			wild := s
			wild.sites = slices.Clone(s.sites)
			for at := range wild.sites {
				wild.sites[at].Step = next(4)
			}
			l = append(l, state{x, wild.sites, x.anyPost(4, next)}, state{x, wild.sites, s.post})
		}
	}
	return l
}

// anyPost returns a valid post with notes for some of the steps below most.
func (x world) anyPost(most int, next func(most int) int) []api.Note {
	var l []api.Note
	for step := 1; step < most; step++ {
		share := next(4)
		for _, n := range x.allDue(step) {
			if n.Count = next(3); next(3) < share {
				l = append(l, n)
			}
		}
	}
	slices.SortFunc(l, func(a, b api.Note) int { return (a.Cell*7+a.Dir*3+a.Step)%11 - (b.Cell*7+b.Dir*3+b.Step)%11 })
	return l
}

// invalidSites returns sites of the node of s that are not as its site should be.
func invalidSites(s api.Site) []api.Site {
	var l []api.Site
	change := func(do func(s *api.Site)) {
		bad := api.Site{Node: s.Node, Step: s.Step, Index: slices.Clone(s.Index), Cells: slices.Clone(s.Cells)}
		do(&bad)
		l = append(l, bad)
	}
	for _, step := range []int{-1, api.MaxStep + 1, math.MinInt, math.MaxInt} {
		change(func(s *api.Site) { s.Step = step })
	}
	for _, i := range []int{-1, 1024, math.MaxInt, math.MinInt, s.Index[0] + 2} {
		change(func(s *api.Site) { s.Index[len(s.Index)-1] = i })
	}
	change(func(s *api.Site) { s.Index, s.Cells = nil, nil })
	change(func(s *api.Site) { s.Index, s.Cells = s.Index[1:], s.Cells[1:] })
	change(func(s *api.Site) { s.Index, s.Cells = append(s.Index, 99), append(s.Cells, api.Cell{}) })
	change(func(s *api.Site) { s.Index = s.Index[1:] })
	change(func(s *api.Site) { s.Cells = s.Cells[1:] })
	change(func(s *api.Site) { s.Index = append(s.Index, 99) })
	change(func(s *api.Site) { s.Cells = append(s.Cells, api.Cell{}) })
	change(func(s *api.Site) { s.Cells = nil })
	if len(s.Index) > 1 {
		change(func(s *api.Site) { slices.Reverse(s.Index) })
		change(func(s *api.Site) { s.Cells[0], s.Cells[1] = api.Cell{api.MaxMass}, api.Cell{0, 0, 1} })
		change(func(s *api.Site) { s.Cells[0], s.Cells[1] = api.Cell{-1}, api.Cell{2} })
	}
	for _, c := range []api.Cell{{-1, 1}, {0, 0, 0, -1}, {api.MaxMass, 1}, {math.MaxInt, math.MaxInt, 2}, {1 << 62, 1 << 62, 1 << 62, 1 << 62}, {math.MinInt}} {
		change(func(s *api.Site) { s.Cells[len(s.Cells)-1] = c })
	}
	return l
}

// invalidPosts are such for halves.
func invalidPosts() [][]api.Note {
	good := api.Note{Step: 3, From: 1, To: 0, Cell: 1, Dir: api.West, Count: 4}
	other := api.Note{Step: 3, From: 0, To: 1, Cell: 2, Dir: api.East}
	var l [][]api.Note
	change := func(do func(n *api.Note)) {
		bad := good
		do(&bad)
		l = append(l, []api.Note{bad}, []api.Note{other, bad}, []api.Note{bad, other})
	}
	for _, wild := range []int{-1, math.MinInt, math.MaxInt} {
		change(func(n *api.Note) { n.Step = wild })
		change(func(n *api.Note) { n.From = wild })
		change(func(n *api.Note) { n.To = wild })
		change(func(n *api.Note) { n.Cell = wild })
		change(func(n *api.Note) { n.Dir = wild })
		change(func(n *api.Note) { n.Count = wild })
	}
	change(func(n *api.Note) { n.Step = 0 })
	change(func(n *api.Note) { n.Step = api.MaxStep + 1 })
	change(func(n *api.Note) { n.Count = api.MaxMass + 1 })
	change(func(n *api.Note) { n.From = 0 })
	change(func(n *api.Note) { n.From = 2 })
	change(func(n *api.Note) { n.To = 1 })
	change(func(n *api.Note) { n.To = 7 })
	change(func(n *api.Note) { n.From, n.To = 0, 1 })
	change(func(n *api.Note) { n.Cell = 0 })
	change(func(n *api.Note) { n.Cell = 4 })
	change(func(n *api.Note) { n.Dir = 4 })
	change(func(n *api.Note) { n.Dir = api.East })
	change(func(n *api.Note) { n.From, n.Dir = 0, api.East })
	change(func(n *api.Note) { n.From, n.Dir = 0, api.North })
	change(func(n *api.Note) { n.Dir = api.South })
	again := good
	again.Count = 5
	return append(l, []api.Note{good, good}, []api.Note{good, other, again}, many(api.MaxNotes+4))
}

// many returns a post of halves with so many notes, from the step 1 on.
func many(count int) []api.Note {
	return manyFrom(1, count)
}

// manyFrom returns a post of halves with so many notes, from a step on.
func manyFrom(step, count int) []api.Note {
	x := halves()
	var l []api.Note
	for len(l) < count {
		l = append(l, x.allDue(step)...)
		step++
	}
	return l[:count]
}

func sameSite(a, b api.Site) bool {
	return a.Node == b.Node && a.Step == b.Step && slices.Equal(a.Index, b.Index) && slices.Equal(a.Cells, b.Cells)
}

func sameSites(a, b []api.Site) bool {
	return slices.EqualFunc(a, b, sameSite)
}

func sameGrid(a, b api.Grid) bool {
	return a.Wide == b.Wide && a.High == b.High && slices.Equal(a.Cells, b.Cells)
}

func isZeroSite(s api.Site) bool {
	return sameSite(s, api.Site{})
}

func isZeroGrid(g api.Grid) bool {
	return sameGrid(g, api.Grid{})
}

// done returns a function that passes the result of a call on which must succeed.
func done[T any](t *testing.T) func(T, api.Errno) T {
	return func(x T, e api.Errno) T {
		t.Helper()
		if e != api.OK {
			t.Fatalf("error %d", e)
		}
		return x
	}
}

// arguments are what calls are given.
type arguments struct {
	g     api.Grid
	owner []int
	rules []api.Rule
	node  int
	step  int
	site  api.Site
	sites []api.Site
	post  []api.Note
	order []int
}

// outcome is the error of a call, and whether everything else of its result is zero.
type outcome struct {
	name string
	e    api.Errno
	zero bool
}

// outcomes calls everything that takes a grid with a map and returns an error.
func outcomes(a arguments) []outcome {
	sites, e1 := node.Split(a.g, a.owner)
	due, e2 := node.Due(a.g, a.owner, a.node, a.step)
	ready, e3 := node.Ready(a.g, a.owner, a.site, a.post)
	s, post, e4 := node.Act(a.g, a.owner, a.rules, a.site, a.post)
	played, under, acted, e5 := node.Play(a.g, a.owner, a.rules, a.step, a.order)
	stuck, e6 := node.Stuck(a.g, a.owner, a.sites, a.post, a.step)
	lost, e7 := node.Lost(a.g, a.owner, a.sites, a.post)
	merged, e8 := node.Merge(a.g, a.owner, a.sites, a.post)
	g, e9 := node.Run(a.g, a.owner, a.rules, a.step)
	n, e10 := node.Traffic(a.g, a.owner)
	l, e11 := node.Neighbours(a.g, a.owner, a.node)
	return []outcome{
		{"Split", e1, len(sites) == 0},
		{"Due", e2, len(due) == 0},
		{"Ready", e3, !ready},
		{"Act", e4, isZeroSite(s) && len(post) == 0},
		{"Play", e5, len(played) == 0 && len(under) == 0 && acted == 0},
		{"Stuck", e6, len(stuck) == 0},
		{"Lost", e7, len(lost) == 0},
		{"Merge", e8, isZeroGrid(merged)},
		{"Run", e9, isZeroGrid(g)},
		{"Traffic", e10, n == 0},
		{"Neighbours", e11, len(l) == 0},
	}
}

// wrong calls everything with arguments that some of the calls must refuse with an error.
func wrong(t *testing.T, a arguments, e api.Errno, names ...string) {
	t.Helper()
	for _, o := range outcomes(a) {
		if slices.Contains(names, o.name) && o.e != e {
			t.Errorf("%s: error %d, want %d", o.name, o.e, e)
		}
		if o.e != api.OK && !o.zero {
			t.Errorf("%s: a result beside the error %d", o.name, o.e)
		}
	}
}

// right returns arguments that all calls take: for halves after the first step of both.
func right() arguments {
	x, _ := halves().started().next([]api.Rule{turn()}, 1, 0, 1)
	return arguments{g: x.g, owner: x.owner, rules: []api.Rule{turn()}, node: 1, step: 1, site: x.sites[0], sites: x.sites, post: x.post, order: []int{0, 1}}
}
