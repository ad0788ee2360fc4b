package lab

import (
	"slipstream/api"
	"slipstream/grid"
	"slipstream/wall"
)

// command is what changes a lab and stands in its book.
type command interface {
	// text returns the line that is read as this command.
	text() string
	// deed returns the state of a machine after the command, or leaves by a failure. It writes into nothing but the marks.
	deed(m *machine) state
}

// The commands.
type (
	putCommand struct {
		p      api.Point
		dir, n int
	}
	takeCommand struct {
		p      api.Point
		dir, n int
	}
	discCommand struct {
		p       api.Point
		q, body int
	}
	smoothCommand struct {
		p       api.Point
		q, body int
	}
	boxCommand struct {
		p, q       api.Point
		kind, body int
	}
	clearCommand struct{ body int }
	stepCommand  struct{ n int }
	backCommand  struct{ n int }
	markCommand  struct{ name string }
	goCommand    struct{ name string }
)

// failure is the panic by which the deed of a command that fails leaves.
type failure api.Errno

func fail(e api.Errno) {
	panic(failure(e))
}

// must passes the result of a call on without which a command fails.
func must[T any](x T, e api.Errno) T {
	if e != api.OK {
		fail(e)
	}
	return x
}

func (c *putCommand) deed(m *machine) state {
	s := m.settled()
	s.grid = must(grid.Put(s.grid, c.p, c.dir, c.n))
	s.account = s.account.with(c.dir, c.n)
	return s
}

func (c *takeCommand) deed(m *machine) state {
	s := m.settled()
	s.grid = must(grid.Take(s.grid, c.p, c.dir, c.n))
	s.account = s.account.with(c.dir, -c.n)
	return s
}

func (c *discCommand) deed(m *machine) state {
	s := m.settled()
	s.wall = must(wall.Disc(s.grid, s.wall, c.p, c.q, c.body))
	return s
}

func (c *smoothCommand) deed(m *machine) state {
	s := m.settled()
	s.wall = must(wall.Smooth(s.grid, s.wall, c.p, c.q, c.body))
	return s
}

func (c *boxCommand) deed(m *machine) state {
	s := m.settled()
	s.wall = must(wall.Box(s.grid, s.wall, c.p, c.q, c.kind, c.body))
	return s
}

func (c *clearCommand) deed(m *machine) state {
	s := m.settled()
	s.wall = must(wall.Removed(s.grid, s.wall, c.body))
	return s
}

func (c *stepCommand) deed(m *machine) state {
	checkSteps(c.n)
	if m.now+c.n > api.MaxStep {
		fail(api.ErrLimit)
	}
	s := m.state
	bodies := must(wall.Bodies(s.grid, s.wall))
	for range c.n {
		s = s.withImpulses(bodies, 1)
		s.grid = must(wall.Step(s.grid, s.wall, m.Rules, s.now))
		s.now++
	}
	s.undoable += c.n
	return s
}

func (c *backCommand) deed(m *machine) state {
	checkSteps(c.n)
	if c.n > m.undoable {
		fail(api.ErrState)
	}
	s := m.state
	bodies := must(wall.Bodies(s.grid, s.wall))
	for range c.n {
		s.now--
		s.grid = must(wall.Back(s.grid, s.wall, m.Rules, s.now))
		s = s.withImpulses(bodies, -1)
	}
	s.undoable -= c.n
	return s
}

func (c *markCommand) deed(m *machine) state {
	if !isName(c.name) {
		fail(api.ErrInvalid)
	}
	if _, ok := m.marks[c.name]; !ok && len(m.marks) >= api.MaxMarks {
		fail(api.ErrLimit)
	}
	m.marks[c.name] = m.state
	return m.state
}

func (c *goCommand) deed(m *machine) state {
	s, ok := m.marks[c.name]
	if !ok {
		fail(api.ErrName)
	}
	return s
}

func checkSteps(n int) {
	if n < 1 || n > api.MaxSteps {
		fail(api.ErrRange)
	}
}

// isName reports whether a mark may have a name: a small letter, and behind it small letters, digits and underscores.
func isName(name string) bool {
	if name == "" || len(name) > api.MaxName || !isSmall(name[0]) {
		return false
	}
	for _, b := range []byte(name) {
		if !isSmall(b) && (b < '0' || b > '9') && b != '_' {
			return false
		}
	}
	return true
}

func isSmall(b byte) bool {
	return b >= 'a' && b <= 'z'
}
