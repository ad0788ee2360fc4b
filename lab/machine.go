package lab

import (
	"maps"
	"slices"

	"slipstream/api"
	"slipstream/grid"
	"slipstream/wall"
)

// machine is what a lab runs.
type machine struct {
	Setup
	state
	marks map[string]state
	lines []api.Entry
}

// state is what a mark keeps. Nothing writes into its lists, so that marks may share them.
type state struct {
	grid     api.Grid
	wall     api.Wall
	now      int
	undoable int
	account  account
	given    [api.MaxBodies + 1]api.Push
}

// account is what was put in, less what was taken.
type account struct{ mass, east, north int }

// newMachine returns the machine of a valid setup.
func newMachine(x Setup) *machine {
	x.Rules = slices.Clone(x.Rules)
	// The sides are those of a grid.
	g, _ := grid.Empty(x.Wide, x.High)
	w, _ := wall.Open(g)
	return &machine{Setup: x, state: state{grid: g, wall: w}, marks: map[string]state{}}
}

// run does a command. One that fails leaves before anything has changed.
func (m *machine) run(c command) {
	if len(m.lines) >= api.MaxLines {
		fail(api.ErrLimit)
	}
	m.state = c.deed(m)
	m.lines = append(m.lines, entryBehind(m.lines, m.now, c.text()))
}

// settled returns the state as one of which no step can be undone.
func (s state) settled() state {
	s.undoable = 0
	return s
}

// withImpulses returns the state to whose bodies the impulses of the next step are added so many times.
func (s state) withImpulses(bodies []int, times int) state {
	for _, body := range bodies {
		p := must(wall.Impulse(s.grid, s.wall, body))
		s.given[body].East += times * p.East
		s.given[body].North += times * p.North
	}
	return s
}

// with returns the account after n particles that go in a direction came; they went if n is below 0.
func (a account) with(dir, n int) account {
	way := [4]api.Push{api.East: {East: 1}, api.North: {North: 1}, api.West: {East: -1}, api.South: {North: -1}}[dir]
	return account{a.mass + n, a.east + n*way.East, a.north + n*way.North}
}

func sameMachines(a, b *machine) bool {
	return sameSetups(a.Setup, b.Setup) && sameStates(a.state, b.state) &&
		maps.EqualFunc(a.marks, b.marks, sameStates) && slices.Equal(a.lines, b.lines)
}

func sameSetups(a, b Setup) bool {
	return a.Wide == b.Wide && a.High == b.High && slices.Equal(a.Rules, b.Rules) && a.Nodes == b.Nodes
}

func sameStates(a, b state) bool {
	return sameGrids(a.grid, b.grid) && slices.Equal(a.wall.Kind, b.wall.Kind) && slices.Equal(a.wall.Body, b.wall.Body) &&
		a.now == b.now && a.undoable == b.undoable && a.account == b.account && a.given == b.given
}

func sameGrids(a, b api.Grid) bool {
	return a.Wide == b.Wide && a.High == b.High && slices.Equal(a.Cells, b.Cells)
}
