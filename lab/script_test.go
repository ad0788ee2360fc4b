package lab_test

import (
	"fmt"
	"slices"
	"strings"
	"testing"

	"slipstream/api"
	"slipstream/grid"
	"slipstream/lab"
	"slipstream/share"
	"slipstream/wall"
)

// prints checks what a script prints.
func prints(t *testing.T, l *lab.Lab, script, want string) {
	t.Helper()
	if got := lab.Do(l, script); got != want {
		t.Errorf("Do of %q prints %q, want %q", script, got, want)
	}
}

// TestScriptExample is the chapter's one.
func TestScriptExample(t *testing.T) {
	l := made(t, chapter())
	prints(t, l, "put 0 0 0 5\nstep 3\ncell 3 0\nback 4\nback 3\ncell 0 0\n", "ok\nok\n5 0 0 0\nerror 10\nok\n5 0 0 0\n")
}

// TestScriptsDo gives orders as lines and as calls of methods.
func TestScriptsDo(t *testing.T) {
	for seed, x := range slices.Repeat(setups(), 3) {
		l, m, next := made(t, x), newModel(x), thrown(uint64(seed+700))
		for range 150 {
			o := spoilt(someOrder(x, next), next)
			want := "ok\n"
			if e := m.obey(o); e != api.OK {
				want = fmt.Sprintf("error %d\n", e)
			}
			prints(t, l, o.text(), want)
		}
		if told(l) != m.told() {
			t.Fatalf("the lab tells %swant %s", told(l), m.told())
		}
	}
}

// columnLoads returns the masses of a grid's columns.
func columnLoads(g api.Grid) []int {
	loads := make([]int, g.Wide)
	for i, c := range g.Cells {
		loads[i%g.Wide] += c[0] + c[1] + c[2] + c[3]
	}
	return loads
}

// TestQuestions compares what is printed with what the calls tell.
func TestQuestions(t *testing.T) {
	for seed, x := range slices.Repeat(setups(), 4) {
		l, m := busy(t, x, 60, uint64(seed+800))
		before := told(l)
		mass, _ := grid.Mass(m.g)
		east, north, _ := grid.Momentum(m.g)
		sum, _ := grid.Sum(m.g)
		cuts, _ := share.Best(columnLoads(m.g), x.Nodes)
		prints(t, l, "now\nundo\nmass\nflow", fmt.Sprintf("%d\n%d\n%d\n%d %d\n", m.t, len(m.past), mass, east, north))
		prints(t, l, "sum\nshare", fmt.Sprintf("%d\n%s\n", sum, strings.Trim(fmt.Sprint(cuts), "[]")))
		for body := 1; body <= api.MaxBodies; body++ {
			prints(t, l, fmt.Sprintf("given %d\n", body), fmt.Sprintf("%d %d\n", m.given[body].East, m.given[body].North))
		}
		for i, c := range m.g.Cells {
			prints(t, l, fmt.Sprintf("cell %d %d", i%x.Wide, i/x.Wide), fmt.Sprintf("%d %d %d %d\n", c[0], c[1], c[2], c[3]))
		}
		for _, body := range []int{0, -1, 10, 1000000000000000, -1000000000000000} {
			prints(t, l, fmt.Sprintf("given %d", body), "error 7\n")
		}
		for _, p := range [][2]int{{-1, 0}, {0, -1}, {x.Wide, 0}, {0, x.High}, {x.Wide, -1}, {1000000000000000, 0}, {0, -1000000000000000}} {
			prints(t, l, fmt.Sprintf("cell %d %d", p[0], p[1]), "error 7\n")
		}
		if told(l) != before {
			t.Errorf("behind questions the lab tells %sbefore %s", told(l), before)
		}
	}
}

// TestShare prints the cuts of a grid that has something in each column; a single node has none.
func TestShare(t *testing.T) {
	for nodes, want := range map[int]string{1: "", 2: "3", 3: "2 4", 4: "0 2 4"} {
		l := made(t, lab.Setup{Wide: 5, High: 1, Rules: []api.Rule{none()}, Nodes: nodes})
		prints(t, l, "put 0 0 0 3\nput 1 0 1 1\nput 2 0 2 4\nput 3 0 3 1\nput 4 0 0 5\nshare\n", "ok\nok\nok\nok\nok\n"+want+"\n")
	}
}

// TestEven: without walls a step is the same on any nodes.
func TestEven(t *testing.T) {
	for seed, x := range slices.Repeat(setups(), 4) {
		next := thrown(uint64(seed + 900))
		for x.Nodes = 1; x.Nodes <= api.MaxNodes; x.Nodes++ {
			l := made(t, x)
			prints(t, l, "even", "yes\n")
			for range 30 {
				if o := someOrder(x, next); slices.Contains([]string{"put", "take", "step"}, o.word) {
					o.give(l)
				}
				prints(t, l, "even", "yes\n")
			}
			prints(t, l, fmt.Sprintf("disc %d %d 0 1\neven", x.Wide-1, x.High-1), "ok\nerror 11\n")
			prints(t, l, "clear 1\neven", "ok\nyes\n")
			for kind := api.WBack; kind <= api.WBlash; kind++ {
				prints(t, l, fmt.Sprintf("mark a\nbox 0 0 0 0 %d 9\neven\ngo a\neven", kind), "ok\nok\nerror 11\nok\nyes\n")
			}
		}
	}
}

// TestNoCommands: none of these lines is a command or a question.
func TestNoCommands(t *testing.T) {
	l := made(t, chapter())
	prints(t, l, "put 0 0 0 5\nbox 2 0 2 0 1 1\nstep 1\nmark a", "ok\nok\nok\nok\n")
	before := told(l)
	lines := []string{
		"fly", "x", " ", "  ", "\t", "\r", "\x00", "\xff", "error 14", "ok", "1", "run 1", "undone", "give 1", "slope 0 0 1 1 1",
		"mark", "mark ", "mark  a", "mark a ", "mark a b", " mark a", "go", "go ", "go a ", "go a a", "go  a", "mark\ta",
	}
	for _, word := range []string{"now", "undo", "mass", "flow", "sum", "share", "even"} {
		lines = append(lines, word+" ", " "+word, word+" 1", word+"\r", strings.ToUpper(word), word+" "+word, word+"s", word[1:])
	}
	for word, count := range map[string]int{"put": 4, "take": 4, "disc": 4, "smooth": 4, "box": 6, "clear": 1, "step": 1, "back": 1, "given": 1, "cell": 2} {
		right := strings.Split(word+strings.Repeat(" 0", count), " ")
		written := strings.Join(right, " ")
		lines = append(lines, word, word+" ", written+" ", " "+written, written+" 0", strings.TrimSuffix(written, " 0"), strings.Replace(written, " ", "  ", 1), strings.ToUpper(written), written+"\r", written+" a", word+"s 0")
		for i := range count {
			for _, n := range []string{"", "x", "a", "00", "01", "-0", "+1", "-01", "0x1", "1.0", "1e3", "1_000", "٣", "1\t", "1000000000000001", "-1000000000000001", "9223372036854775807", "9223372036854775808", "-9223372036854775808", strings.Repeat("9", 50), "-", "--1", "- 1", "0 0"} {
				wrong := slices.Clone(right)
				wrong[i+1] = n
				lines = append(lines, strings.Join(wrong, " "))
			}
		}
	}
	for _, line := range lines {
		prints(t, l, line, "error 14\n")
		prints(t, l, line+"\n", "error 14\n")
		prints(t, l, "now\n"+line+"\nnow", "1\nerror 14\n1\n")
	}
	if told(l) != before {
		t.Errorf("the lab tells %sbefore %s", told(l), before)
	}
	// A name that is none is read nevertheless.
	for _, name := range badNames() {
		prints(t, l, "mark "+name+"\ngo "+name, "error 1\nerror 5\n")
	}
}

// TestNumbers: numbers are read up to 10^15, whatever a command makes of them.
func TestNumbers(t *testing.T) {
	l := made(t, chapter())
	before := told(l)
	for _, n := range []int{1000000000000000, 999999999999999, -1, -1000000000000000, -999999999999999, 1001, 4} {
		prints(t, l, fmt.Sprintf("put %d 0 0 1\nput 0 %d 0 1\nput 0 0 %d 1\ntake %d 0 0 1", n, n, n, n), "error 7\nerror 7\nerror 7\nerror 7\n")
		prints(t, l, fmt.Sprintf("disc %d 0 0 1\nsmooth 0 %d 0 1\nbox 0 0 %d 0 1 1\nbox 0 0 0 0 %d 1", n, n, n, n), "error 7\nerror 7\nerror 7\nerror 7\n")
	}
	for _, n := range []int{1000000000000000, 1001, -1, -1000000000000000} {
		prints(t, l, fmt.Sprintf("clear %d\nstep %d\nback %d\ngiven %d", n, n, n, n), "error 7\nerror 7\nerror 7\nerror 7\n")
	}
	if told(l) != before {
		t.Errorf("the lab tells %s", told(l))
	}
}

// TestEmptyLines: they print nothing.
func TestEmptyLines(t *testing.T) {
	l := made(t, chapter())
	prints(t, l, "", "")
	prints(t, l, "\n", "")
	prints(t, l, "\n\n\n", "")
	prints(t, l, "\nnow\n\n\nundo\n\n", "0\n0\n")
	if len(l.Lines()) != 0 {
		t.Errorf("Lines = %v", l.Lines())
	}
}

// TestTwoScripts: a script in two parts prints what it prints as one.
func TestTwoScripts(t *testing.T) {
	for seed, x := range setups() {
		next := thrown(uint64(seed + 1000))
		var script strings.Builder
		for range 60 {
			lines := []string{"now", "undo", "mass", "flow", "given 1", "sum", "cell 0 0", "share", "even", "", "fly", "step x"}
			script.WriteString(lines[next(len(lines))] + "\n" + spoilt(someOrder(x, next), next).text() + "\n")
		}
		s := script.String()
		l := made(t, x)
		whole := lab.Do(l, s)
		for i := range len(s) + 1 {
			if i > 0 && s[i-1] != '\n' {
				continue
			}
			c := made(t, x)
			first := lab.Do(c, s[:i])
			if got := first + lab.Do(c, s[i:]); got != whole || !lab.Same(c, l) {
				t.Fatalf("%q, and then %q print %q, want %q", s[:i], s[i:], got, whole)
			}
		}
	}
}

func TestLongScripts(t *testing.T) {
	l := made(t, chapter())
	prints(t, l, strings.Repeat("now\n", api.MaxText/4), strings.Repeat("0\n", api.MaxText/4))
	prints(t, l, "step 1\n"+strings.Repeat("\n", api.MaxText-7), "ok\n")
	before := told(l)
	prints(t, l, "step 1\n"+strings.Repeat("\n", api.MaxText-6), "error 3\n")
	prints(t, l, strings.Repeat("x", api.MaxText+1), "error 3\n")
	prints(t, l, strings.Repeat("step 1\n", 100000), "error 3\n")
	if told(l) != before {
		t.Errorf("behind a long script the lab tells %s", told(l))
	}
	prints(t, l, strings.Repeat("x", api.MaxText), "error 14\n")
	prints(t, l, strings.Repeat("step 1\n", 3000), strings.Repeat("ok\n", 1999)+strings.Repeat("error 4\n", 1001))
}

// TestWallsInScripts follows particles that a wall sends back.
func TestWallsInScripts(t *testing.T) {
	l := made(t, lab.Setup{Wide: 3, High: 3, Rules: []api.Rule{turn()}, Nodes: 3})
	prints(t, l, "put 0 1 0 4\nput 1 2 3 2\nbox 1 1 1 1 2 3\nbox 2 2 2 2 1 3\nsmooth 0 0 0 7\n", "ok\nok\nok\nok\nok\n")
	if w := l.Wall(); wall.Format(l.Grid(), w) != "g..\n.l.\n..c\n" {
		t.Errorf("Wall = %v", w)
	}
	prints(t, l, "flow\nstep 1\ngiven 3\nstep 1\ngiven 3\nflow\ncell 1 2\ncell 0 1\n", "4 -2\nok\n0 0\nok\n-6 6\n-2 4\n0 4 0 0\n0 0 2 0\n")
	prints(t, l, "given 7\nback 1\ngiven 3\nflow\nback 1\ngiven 3\n", "0 0\nok\n0 0\n4 -2\nok\n0 0\n")
}
