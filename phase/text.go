package phase

import (
	"slices"
	"strconv"
	"strings"

	"slipstream/api"
	"slipstream/cell"
	"slipstream/grid"
)

// Format returns a line with the sides, and a line with the populations of both phases for each cell; the empty string for a mix that is not valid.
func Format(x api.Mix) string {
	if !Valid(x) {
		return ""
	}
	var text strings.Builder
	text.WriteString(writeLine(x.Wide, x.High))
	for i := range x.A {
		text.WriteString(writeLine(slices.Concat(x.A[i][:], x.B[i][:])...))
	}
	return text.String()
}

// Parse reads what Format returns for valid mixes. With api.ErrSyntax it returns the number of the first line that is wrong or missing.
func Parse(s string) (x api.Mix, line int, e api.Errno) {
	if len(s) > api.MaxText {
		return api.Mix{}, 0, api.ErrLong
	}
	x, rest, ok := readSides(s)
	if !ok {
		return api.Mix{}, 0, api.ErrSyntax
	}
	mass := 0
	for i := range x.A {
		var both [2]api.Cell
		if both, rest, ok = readCells(rest); !ok {
			return api.Mix{}, i + 1, api.ErrSyntax
		}
		x.A[i], x.B[i] = both[0], both[1]
		// A line with which the mass is too much is the first wrong one, also if its cells are in their limits.
		more, e := massOf(both)
		if e != api.OK || more > api.MaxMass-mass {
			return api.Mix{}, i + 1, api.ErrSyntax
		}
		mass += more
	}
	if rest != "" {
		return api.Mix{}, len(x.A) + 1, api.ErrSyntax
	}
	return x, 0, api.OK
}

// massOf returns how many particles two cells have together.
func massOf(both [2]api.Cell) (int, api.Errno) {
	sum, e := cell.Added(both[0], both[1])
	if e != api.OK {
		return 0, e
	}
	return cell.Mass(sum)
}

// readSides returns the mix without particles with the sides of the first line, and the text behind that line.
func readSides(s string) (x api.Mix, rest string, ok bool) {
	sides, rest, ok := readLine(s, 2)
	if !ok {
		return api.Mix{}, "", false
	}
	g, e := grid.Empty(sides[0], sides[1])
	return mixed(g, g), rest, e == api.OK
}

// readCells returns the cells of A and B of the first line, and the text behind that line. They may be too full, or have populations below 0.
func readCells(s string) (both [2]api.Cell, rest string, ok bool) {
	numbers, rest, ok := readLine(s, len(both)*len(both[0]))
	if !ok {
		return both, "", false
	}
	copy(both[0][:], numbers)
	copy(both[1][:], numbers[len(both[0]):])
	return both, rest, true
}

// readLine returns the numbers of the first line, and the text behind it. It is false unless the line is just what writeLine makes of so many numbers.
func readLine(s string, count int) (numbers []int, rest string, ok bool) {
	text, rest, _ := strings.Cut(s, "\n")
	words := strings.Split(text, " ")
	if len(words) != count {
		return nil, "", false
	}
	for _, w := range words {
		n, err := strconv.Atoi(w)
		if err != nil {
			return nil, "", false
		}
		numbers = append(numbers, n)
	}
	// Written again the line has no signs in front but -, no zeros in front, and its line feed.
	return numbers, rest, strings.HasPrefix(s, writeLine(numbers...))
}

func writeLine(numbers ...int) string {
	var words []string
	for _, n := range numbers {
		words = append(words, strconv.Itoa(n))
	}
	return strings.Join(words, " ") + "\n"
}
