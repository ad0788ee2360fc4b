package grid

import (
	"strconv"
	"strings"

	"slipstream/api"
	"slipstream/cell"
)

const (
	hashStart  uint64 = 14695981039346656037
	hashFactor uint64 = 1099511628211
)

// Sum returns a hash of a grid's text.
func Sum(g api.Grid) (uint64, api.Errno) {
	if !Valid(g) {
		return 0, api.ErrInvalid
	}
	hash := hashStart
	for _, b := range []byte(Format(g)) {
		hash = (hash ^ uint64(b)) * hashFactor
	}
	return hash, api.OK
}

// Format returns a line with the sides, and a line with the populations of each cell; the empty string for a grid that is not valid.
func Format(g api.Grid) string {
	if !Valid(g) {
		return ""
	}
	var text strings.Builder
	text.WriteString(writeLine(g.Wide, g.High))
	for _, c := range g.Cells {
		text.WriteString(writeLine(c[:]...))
	}
	return text.String()
}

// Parse reads what Format returns for valid grids. With api.ErrSyntax it returns the number of the first line that is wrong or missing.
func Parse(s string) (g api.Grid, line int, e api.Errno) {
	if len(s) > api.MaxText {
		return api.Grid{}, 0, api.ErrLong
	}
	g, rest, ok := readSides(s)
	if !ok {
		return api.Grid{}, 0, api.ErrSyntax
	}
	mass := 0
	for i := range g.Cells {
		var populations []int
		if populations, rest, ok = readLine(rest, len(g.Cells[i])); !ok {
			return api.Grid{}, i + 1, api.ErrSyntax
		}
		copy(g.Cells[i][:], populations)
		// A line with which the mass is too much is the first wrong one, also if it is in its limit itself.
		more, e := cell.Mass(g.Cells[i])
		if e != api.OK || more > api.MaxMass-mass {
			return api.Grid{}, i + 1, api.ErrSyntax
		}
		mass += more
	}
	if rest != "" {
		return api.Grid{}, len(g.Cells) + 1, api.ErrSyntax
	}
	return g, 0, api.OK
}

// readSides returns the empty grid with the sides of the first line, and the text behind that line.
func readSides(s string) (g api.Grid, rest string, ok bool) {
	sides, rest, ok := readLine(s, 2)
	if !ok {
		return api.Grid{}, "", false
	}
	g, e := Empty(sides[0], sides[1])
	return g, rest, e == api.OK
}

// readLine returns the numbers of the first line, and the text behind it. It is false unless the line is just what writeLine makes of so many numbers.
func readLine(s string, count int) (numbers []int, rest string, ok bool) {
	text, rest, _ := strings.Cut(s, "\n")
	for _, w := range strings.Split(text, " ") {
		n, err := strconv.Atoi(w)
		if err != nil || len(numbers) == count {
			return nil, "", false
		}
		numbers = append(numbers, n)
	}
	// Written again the line has no signs, no zeros in front, and its line feed.
	if len(numbers) != count || !strings.HasPrefix(s, writeLine(numbers...)) {
		return nil, "", false
	}
	return numbers, rest, true
}

func writeLine(numbers ...int) string {
	var words []string
	for _, n := range numbers {
		words = append(words, strconv.Itoa(n))
	}
	return strings.Join(words, " ") + "\n"
}
