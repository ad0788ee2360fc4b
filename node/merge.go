package node

import (
	"slices"

	"slipstream/api"
)

// Lost returns the notes that were sent and not used, but are not in the post, sorted and with Count 0.
func Lost(g api.Grid, owner []int, l []api.Site, post []api.Note) ([]api.Note, api.Errno) {
	c, notes, e := checkSites(g, owner, l, post)
	if e != api.OK {
		return nil, e
	}
	var lost []api.Note
	for _, s := range l {
		first := max(s.Step, 1)
		for n := range c.due(s.Node, first) {
			sender, _ := c.rank(n.From)
			for n.Step = first; n.Step <= l[sender].Step; n.Step++ {
				if _, ok := notes[keyOf(n)]; !ok {
					lost = append(lost, n)
				}
			}
		}
	}
	return Sorted(lost), api.OK
}

// Merge returns the grid of sites that have all gone the same number of steps, with the notes of this step.
func Merge(g api.Grid, owner []int, l []api.Site, post []api.Note) (api.Grid, api.Errno) {
	c, notes, e := checkSites(g, owner, l, post)
	if e != api.OK {
		return api.Grid{}, e
	}
	step := l[0].Step
	if slices.ContainsFunc(l, func(s api.Site) bool { return s.Step != step }) {
		return api.Grid{}, api.ErrState
	}
	if slices.ContainsFunc(l, func(s api.Site) bool { return !c.ready(s, notes) }) {
		return api.Grid{}, api.ErrWait
	}
	if slices.ContainsFunc(post, func(n api.Note) bool { return n.Step != step }) {
		return api.Grid{}, api.ErrState
	}
	if _, ok := total(l, post); !ok {
		return api.Grid{}, api.ErrLimit
	}
	return merged(g, l, post), api.OK
}

// Run returns the grid after all its nodes have gone n steps.
func Run(g api.Grid, owner []int, l []api.Rule, n int) (api.Grid, api.Errno) {
	w, e := newCrew(g, owner, l)
	if e != api.OK {
		return api.Grid{}, e
	}
	if n < 0 || n > api.MaxSteps {
		return api.Grid{}, api.ErrRange
	}
	w.play(w.rounds(n), n)
	return merged(g, w.sites, w.post()), api.OK
}

// merged returns the grid with the sides of g, with the cells of sites and the notes added to them.
func merged(g api.Grid, l []api.Site, post []api.Note) api.Grid {
	cells := make([]api.Cell, len(g.Cells))
	for _, s := range l {
		for at, i := range s.Index {
			cells[i] = s.Cells[at]
		}
	}
	for _, n := range post {
		cells[n.Cell][n.Dir] += n.Count
	}
	return api.Grid{Wide: g.Wide, High: g.High, Cells: cells}
}
