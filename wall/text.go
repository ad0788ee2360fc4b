package wall

import (
	"strings"

	"slipstream/api"
	"slipstream/grid"
)

const openSign = '.'

// firstLetter has for each kind of wall, but for open cells, the letter of the body 1.
var firstLetter = [4]byte{api.WBack: 'a', api.WSlash: 'j', api.WBlash: 'A'}

// Format returns a line for each row, with a sign for each cell; the empty string for a wall that is not valid.
func Format(g api.Grid, w api.Wall) string {
	if !Valid(g, w) {
		return ""
	}
	var text strings.Builder
	for i, kind := range w.Kind {
		text.WriteByte(sign(kind, w.Body[i]))
		if (i+1)%g.Wide == 0 {
			text.WriteByte('\n')
		}
	}
	return text.String()
}

// Parse reads what Format returns for valid walls of a grid. With api.ErrSyntax it returns the number of the first line that is wrong or missing.
func Parse(g api.Grid, s string) (w api.Wall, line int, e api.Errno) {
	if !grid.Valid(g) {
		return api.Wall{}, 0, api.ErrInvalid
	}
	if len(s) > api.MaxText {
		return api.Wall{}, 0, api.ErrLong
	}
	w = open(g)
	rest := s
	for y := range g.High {
		row, below, ended := strings.Cut(rest, "\n")
		first := index(g, api.Point{Y: y})
		if !ended || len(row) != g.Wide || !readRow(w, first, row) {
			return api.Wall{}, y, api.ErrSyntax
		}
		rest = below
	}
	if rest != "" {
		return api.Wall{}, g.High, api.ErrSyntax
	}
	return w, 0, api.OK
}

// readRow puts what the signs of a row tell into a wall, from the cell first on. It is false if one of them is no sign.
func readRow(w api.Wall, first int, row string) bool {
	for x := range len(row) {
		kind, body, ok := told(row[x])
		if !ok {
			return false
		}
		w.Kind[first+x], w.Body[first+x] = kind, body
	}
	return true
}

func sign(kind, body int) byte {
	if kind == api.WOpen {
		return openSign
	}
	return firstLetter[kind] + byte(body-1)
}

// told returns the kind and the body of a sign.
func told(b byte) (kind, body int, ok bool) {
	if b == openSign {
		return api.WOpen, 0, true
	}
	for kind := api.WBack; kind <= api.WBlash; kind++ {
		body := int(b) - int(firstLetter[kind]) + 1
		if isBody(body) {
			return kind, body, true
		}
	}
	return 0, 0, false
}
