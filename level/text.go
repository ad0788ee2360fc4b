package level

import (
	"strconv"
	"strings"

	"slipstream/api"
	"slipstream/grid"
)

const word = "patch"

// Format returns a line with the rectangle, and then both grids; the empty string for a patch that is not valid.
func Format(p api.Patch) string {
	if !Valid(p) {
		return ""
	}
	words := []string{word}
	for _, n := range [4]int{p.X0, p.Y0, p.X1, p.Y1} {
		words = append(words, strconv.Itoa(n))
	}
	return strings.Join(words, " ") + "\n" + grid.Format(p.Coarse) + grid.Format(p.Fine)
}

// Parse reads what Format returns for valid patches. With api.ErrSyntax it returns the number of the first line that is wrong or missing.
func Parse(s string) (p api.Patch, line int, e api.Errno) {
	if len(s) > api.MaxText {
		return api.Patch{}, 0, api.ErrLong
	}
	head, rest, whole := strings.Cut(s, "\n")
	p, ok := readRectangle(head)
	if !ok || !whole {
		return api.Patch{}, 0, api.ErrSyntax
	}
	coarse, fine := parted(rest)
	line = 1
	if p.Coarse, e = readGrid(coarse, &line); e != api.OK {
		return api.Patch{}, line, e
	}
	if p.Fine, e = readGrid(fine, &line); e != api.OK {
		return api.Patch{}, line, e
	}
	if !Valid(p) {
		return api.Patch{}, line - 1, api.ErrSyntax
	}
	return p, 0, api.OK
}

// readRectangle returns the patch without grids of a first line without its line feed.
func readRectangle(text string) (api.Patch, bool) {
	var p api.Patch
	fields := [4]*int{&p.X0, &p.Y0, &p.X1, &p.Y1}
	words := strings.Split(text, " ")
	if len(words) != 1+len(fields) || words[0] != word {
		return api.Patch{}, false
	}
	for i, w := range words[1:] {
		n, err := strconv.Atoi(w)
		// Written again the word has no sign and no zeros in front.
		if err != nil || n < 0 || n > api.MaxSide || strconv.Itoa(n) != w {
			return api.Patch{}, false
		}
		*fields[i] = n
	}
	return p, true
}

// parted divides a text behind the grid with which it begins: for grid.Parse the first line behind a grid is one too many.
// If no grid begins the text, the first part lacks the line that is wrong, which has the same number.
func parted(s string) (first, rest string) {
	_, wrong, e := grid.Parse(s)
	if e == api.OK {
		return s, ""
	}
	lines := strings.SplitAfter(s, "\n")
	first = strings.Join(lines[:wrong], "")
	return first, s[len(first):]
}

// readGrid returns the grid of a text, and adds to a number of a line how many lines it has, or the number of the wrong one.
func readGrid(s string, line *int) (api.Grid, api.Errno) {
	g, wrong, e := grid.Parse(s)
	if e != api.OK {
		*line += wrong
		return api.Grid{}, e
	}
	*line += 1 + len(g.Cells)
	return g, api.OK
}
