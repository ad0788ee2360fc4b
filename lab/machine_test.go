package lab

import (
	"testing"

	"slipstream/api"
)

// TestSameMachines changes one thing after the other, also those that could not differ in two labs with equal books.
func TestSameMachines(t *testing.T) {
	two := func() *machine {
		m := newMachine(Setup{Wide: 2, High: 1, Rules: []api.Rule{{}}, Nodes: 2})
		m.run(&markCommand{"a"})
		return m
	}
	if !sameMachines(two(), two()) {
		t.Error("two equal machines are not the same")
	}
	changes := map[string]func(m *machine){
		"wide":      func(m *machine) { m.Wide++ },
		"high":      func(m *machine) { m.High++ },
		"rules":     func(m *machine) { m.Rules = []api.Rule{{Kind: api.RTurn}} },
		"nodes":     func(m *machine) { m.Nodes++ },
		"mark":      func(m *machine) { m.marks["b"] = m.marks["a"]; delete(m.marks, "a") },
		"more":      func(m *machine) { m.marks["b"] = m.marks["a"] },
		"marked":    func(m *machine) { m.marks["a"] = m.marks["a"].withNow(7) },
		"line":      func(m *machine) { m.lines[0].Sum++ },
		"lines":     func(m *machine) { m.lines = append(m.lines, m.lines[0]) },
		"grid wide": func(m *machine) { m.grid.Wide++ },
		"grid high": func(m *machine) { m.grid.High++ },
		"cells":     func(m *machine) { m.grid.Cells = []api.Cell{{}, {1}} },
		"kind":      func(m *machine) { m.wall.Kind = []int{0, 1} },
		"body":      func(m *machine) { m.wall.Body = []int{0, 1} },
		"now":       func(m *machine) { m.now++ },
		"undoable":  func(m *machine) { m.undoable++ },
		"mass":      func(m *machine) { m.account.mass++ },
		"east":      func(m *machine) { m.account.east++ },
		"north":     func(m *machine) { m.account.north++ },
		"given":     func(m *machine) { m.given[9].North++ },
	}
	for name, change := range changes {
		m := two()
		change(m)
		if sameMachines(m, two()) || sameMachines(two(), m) {
			t.Errorf("another %s, and the machines are the same", name)
		}
	}
}

func (s state) withNow(now int) state {
	s.now = now
	return s
}

// TestFaults: a command that leaves by another panic than a failure is an error, and changes nothing.
func TestFaults(t *testing.T) {
	l, _ := New(Setup{Wide: 2, High: 1, Rules: []api.Rule{{}}, Nodes: 2})
	if e := l.do(faultyCommand{}); e != api.ErrInvalid || len(l.inner.lines) != 0 {
		t.Errorf("a command with a fault = %d", e)
	}
}

type faultyCommand struct{}

func (faultyCommand) text() string { return "fault" }

func (faultyCommand) deed(m *machine) state { panic("fault") }
