package node

import (
	"slices"

	"slipstream/api"
	"slipstream/cell"
)

// maxOrder is how many nodes an order can have.
const maxOrder = 2000

// Ready reports whether a node is ready to act with a post.
func Ready(g api.Grid, owner []int, s api.Site, post []api.Note) (bool, api.Errno) {
	c, notes, e := checkSite(g, owner, s, post)
	if e != api.OK {
		return false, e
	}
	return c.ready(s, notes), api.OK
}

// Act returns a node's site after it has acted, and the post then.
func Act(g api.Grid, owner []int, l []api.Rule, s api.Site, post []api.Note) (api.Site, []api.Note, api.Errno) {
	if !cell.ValidRules(l) {
		return api.Site{}, nil, api.ErrInvalid
	}
	c, notes, e := checkSite(g, owner, s, post)
	if e != api.OK {
		return api.Site{}, nil, e
	}
	if !c.ready(s, notes) {
		return api.Site{}, nil, api.ErrWait
	}
	used, left := parted(post, func(n api.Note) bool { return n.To == s.Node && n.Step == s.Step })
	if _, ok := total([]api.Site{s}, used); !ok || s.Step == api.MaxStep {
		return api.Site{}, nil, api.ErrLimit
	}
	after, sent := c.acted(s, used, l)
	if len(left)+len(sent) > api.MaxNotes {
		return api.Site{}, nil, api.ErrLimit
	}
	return after, Sorted(append(left, sent...)), api.OK
}

// Play splits a grid and lets nodes act, one after the other, each until it has gone n steps. It returns the sites, the post and how many of the order acted.
func Play(g api.Grid, owner []int, l []api.Rule, n int, order []int) ([]api.Site, []api.Note, int, api.Errno) {
	w, e := newCrew(g, owner, l)
	if e != api.OK {
		return nil, nil, 0, e
	}
	for _, node := range order {
		if _, ok := w.rank(node); !ok {
			return nil, nil, 0, api.ErrName
		}
	}
	if n < 0 || n > api.MaxSteps || len(order) > maxOrder {
		return nil, nil, 0, api.ErrRange
	}
	acted := w.play(slices.Values(order), n)
	return w.sites, w.post(), acted, api.OK
}

// Stuck returns the nodes, ascending, that have gone fewer than n steps and are not ready, if none of those that have gone fewer is.
func Stuck(g api.Grid, owner []int, l []api.Site, post []api.Note, n int) ([]int, api.Errno) {
	c, notes, e := checkSites(g, owner, l, post)
	if e != api.OK {
		return nil, e
	}
	if n < 0 || n > api.MaxStep {
		return nil, api.ErrRange
	}
	var stuck []int
	for _, s := range l {
		if s.Step >= n {
			continue
		}
		if c.ready(s, notes) {
			return nil, api.ErrState
		}
		stuck = append(stuck, s.Node)
	}
	if len(stuck) == 0 {
		return nil, api.ErrNone
	}
	return stuck, api.OK
}

// ready reports whether all notes that a site needs are there.
func (c *chart) ready(s api.Site, notes tray) bool {
	for n := range c.due(s.Node, s.Step) {
		if _, ok := notes[keyOf(n)]; !ok {
			return false
		}
	}
	return true
}

// acted returns a site after it has acted with the notes that it uses, and the notes that it sends.
// Its mass with these notes is at most api.MaxMass, so that each of its cells is valid when it collides.
func (c *chart) acted(s api.Site, used []api.Note, l []api.Rule) (api.Site, []api.Note) {
	cells := slices.Clone(s.Cells)
	for _, n := range used {
		cells[c.place[n.Cell]][n.Dir] += n.Count
	}
	after := api.Site{Node: s.Node, Step: s.Step + 1, Index: slices.Clone(s.Index), Cells: make([]api.Cell, len(cells))}
	r, _ := cell.At(l, s.Step)
	var sent []api.Note
	for at, i := range s.Index {
		collided, _ := cell.Collide(cells[at], r)
		for dir, count := range collided {
			to := c.to[i][dir]
			if c.owner[to] == s.Node {
				after.Cells[c.place[to]][dir] = count
			} else {
				sent = append(sent, api.Note{Step: after.Step, From: s.Node, To: c.owner[to], Cell: to, Dir: dir, Count: count})
			}
		}
	}
	return after, sent
}

// parted returns the notes of which a function tells that they are meant, and those that are left.
func parted(post []api.Note, meant func(n api.Note) bool) (these, left []api.Note) {
	for _, n := range post {
		if meant(n) {
			these = append(these, n)
		} else {
			left = append(left, n)
		}
	}
	return these, left
}
