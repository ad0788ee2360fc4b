package node

import (
	"iter"
	"slices"

	"slipstream/api"
)

// key tells a note from all others of its post.
type key struct{ step, cell, dir int }

// tray keeps the notes of a valid post.
type tray map[key]api.Note

func keyOf(n api.Note) key {
	return key{n.Step, n.Cell, n.Dir}
}

// trayOf returns the tray of a post; false if the post is not valid.
func (c *chart) trayOf(post []api.Note) (tray, bool) {
	if len(post) > api.MaxNotes {
		return nil, false
	}
	notes := make(tray, len(post))
	for _, n := range post {
		_, twice := notes[keyOf(n)]
		if twice || !c.isNote(n) {
			return nil, false
		}
		notes[keyOf(n)] = n
	}
	return notes, true
}

// isNote reports whether a note is due for some step, and its Count in its limits.
func (c *chart) isNote(n api.Note) bool {
	if n.Step < 1 || n.Step > api.MaxStep || n.Count < 0 || n.Count > api.MaxMass {
		return false
	}
	if n.Cell < 0 || n.Cell >= len(c.owner) || n.Dir < api.East || n.Dir > api.South {
		return false
	}
	return n.To == c.owner[n.Cell] && n.From == c.owner[c.from[n.Cell][n.Dir]] && n.From != n.To
}

// Mass returns how many particles all cells and notes have; 0 if a number is below 0, or all together are more than api.MaxMass.
func Mass(l []api.Site, post []api.Note) int {
	sum, _ := total(l, post)
	return sum
}

// total is Mass; false where that is 0 for a reason.
// It stops before the first number that is too much, so that no sum overflows.
func total(l []api.Site, post []api.Note) (int, bool) {
	sum := 0
	for n := range numbers(l, post) {
		if n < 0 || n > api.MaxMass-sum {
			return 0, false
		}
		sum += n
	}
	return sum, true
}

// numbers yields all populations and Counts.
func numbers(l []api.Site, post []api.Note) iter.Seq[int] {
	return func(yield func(int) bool) {
		for _, s := range l {
			for _, c := range s.Cells {
				for _, n := range c {
					if !yield(n) {
						return
					}
				}
			}
		}
		for _, n := range post {
			if !yield(n.Count) {
				return
			}
		}
	}
}

// Sorted returns notes in ascending order of Step, To, Cell, Dir, From and Count.
func Sorted(post []api.Note) []api.Note {
	l := slices.Clone(post)
	slices.SortFunc(l, func(a, b api.Note) int {
		x, y := ranks(a), ranks(b)
		return slices.Compare(x[:], y[:])
	})
	return l
}

// ranks returns the numbers of a note, that by which notes are sorted first in front.
func ranks(n api.Note) [6]int {
	return [6]int{n.Step, n.To, n.Cell, n.Dir, n.From, n.Count}
}
