package lab

import (
	"slices"
	"strconv"
	"strings"

	"slipstream/api"
	"slipstream/grid"
	"slipstream/node"
	"slipstream/share"
)

// Do runs a script on a lab, line by line, and returns what it prints.
func Do(l *Lab, s string) string {
	if !l.isMade() {
		return printed("", api.ErrInvalid)
	}
	if len(s) > api.MaxText {
		return printed("", api.ErrLong)
	}
	var replies strings.Builder
	for line := range strings.Lines(s) {
		replies.WriteString(l.reply(strings.TrimSuffix(line, "\n")))
	}
	return replies.String()
}

// reply does what a line says, and returns what that prints.
func (l *Lab) reply(line string) string {
	if line == "" {
		return ""
	}
	if c, ok := readCommand(line); ok {
		return printed("ok", l.do(c))
	}
	return printed(l.inner.answer(line))
}

// printed returns the line of an answer, or that of an error.
func printed(answer string, e api.Errno) string {
	if e != api.OK {
		answer = "error " + written(int(e))
	}
	return answer + "\n"
}

// answer returns what a line that is no command asks for.
func (m *machine) answer(line string) (string, api.Errno) {
	words := strings.Split(line, " ")
	switch words[0] {
	case "given":
		var body int
		if readNumbers(words[1:], &body) {
			return m.answerGiven(body)
		}
	case "cell":
		var p api.Point
		if readNumbers(words[1:], &p.X, &p.Y) {
			return m.answerCell(p)
		}
	}
	return m.answerWord(line)
}

// answerWord returns what a line of one word asks for. A machine's grid and wall are valid, so that what it asks of the other packages is there.
func (m *machine) answerWord(word string) (string, api.Errno) {
	switch word {
	case "now":
		return written(m.now), api.OK
	case "undo":
		return written(m.undoable), api.OK
	case "mass":
		mass, e := grid.Mass(m.grid)
		return written(mass), e
	case "flow":
		east, north, e := grid.Momentum(m.grid)
		return written(east, north), e
	case "sum":
		sum, e := grid.Sum(m.grid)
		return strconv.FormatUint(sum, 10), e
	case "share":
		cuts, e := m.cuts()
		return share.Format(cuts), e
	case "even":
		return m.answerEven()
	}
	return "", api.ErrCommand
}

func (m *machine) answerGiven(body int) (string, api.Errno) {
	if !isBody(body) {
		return "", api.ErrRange
	}
	p := m.given[body]
	return written(p.East, p.North), api.OK
}

func (m *machine) answerCell(p api.Point) (string, api.Errno) {
	if p.X < 0 || p.X >= m.Wide || p.Y < 0 || p.Y >= m.High {
		return "", api.ErrRange
	}
	c := m.grid.Cells[p.X+m.Wide*p.Y]
	return written(c[:]...), api.OK
}

// answerEven tells whether nodes that share the columns make the step that the grid makes by itself.
func (m *machine) answerEven() (string, api.Errno) {
	if slices.Max(m.wall.Kind) != api.WOpen {
		return "", api.ErrWall
	}
	cuts, _ := m.cuts()
	owner, _ := share.Map(m.grid, cuts)
	byNodes, _ := node.Run(m.grid, owner, m.Rules, 1)
	alone, _ := grid.Run(m.grid, m.Rules, 0, 1)
	if !sameGrids(byNodes, alone) {
		return "no", api.OK
	}
	return "yes", api.OK
}

// cuts returns the best share of the grid's columns.
func (m *machine) cuts() ([]int, api.Errno) {
	loads, _ := share.Loads(m.grid)
	return share.Best(loads, m.Nodes)
}
