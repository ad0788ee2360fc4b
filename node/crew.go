package node

import (
	"iter"
	"maps"
	"slices"

	"slipstream/api"
	"slipstream/cell"
)

// crew is the sites of all nodes of a map, which act by valid rules, with the notes under way.
type crew struct {
	*chart
	rules []api.Rule
	sites []api.Site
	notes tray
}

// newCrew returns a crew that has gone no step.
func newCrew(g api.Grid, owner []int, l []api.Rule) (*crew, api.Errno) {
	c, e := chartOf(g, owner)
	if e != api.OK || !cell.ValidRules(l) {
		return nil, api.ErrInvalid
	}
	return &crew{chart: c, rules: l, sites: c.split(g.Cells), notes: tray{}}, api.OK
}

// play lets nodes act in an order, each until it has gone n steps, and returns how many of the order acted.
// It comes to no limit: a node is never more than a step ahead of those beside it, so that the notes are few, and all particles are those of a valid grid.
func (w *crew) play(order iter.Seq[int], n int) int {
	acted := 0
turns:
	for node := range order {
		at, _ := w.rank(node)
		s := w.sites[at]
		if s.Step == n {
			continue
		}
		var used []api.Note
		for due := range w.due(node, s.Step) {
			note, ok := w.notes[keyOf(due)]
			if !ok {
				continue turns
			}
			used = append(used, note)
		}
		after, sent := w.acted(s, used, w.rules)
		w.sites[at] = after
		w.forward(used, sent)
		acted++
	}
	return acted
}

// forward takes notes that were used away, and adds those that were sent.
func (w *crew) forward(used, sent []api.Note) {
	for _, n := range used {
		delete(w.notes, keyOf(n))
	}
	for _, n := range sent {
		w.notes[keyOf(n)] = n
	}
}

// rounds yields all nodes n times, one after the other.
func (w *crew) rounds(n int) iter.Seq[int] {
	return func(yield func(int) bool) {
		for range n {
			for _, node := range w.nodes {
				if !yield(node) {
					return
				}
			}
		}
	}
}

// post returns the notes under way, sorted.
func (w *crew) post() []api.Note {
	return Sorted(slices.Collect(maps.Values(w.notes)))
}
