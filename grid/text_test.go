package grid_test

import (
	"hash/fnv"
	"regexp"
	"strconv"
	"strings"
	"testing"

	"slipstream/api"
	"slipstream/grid"
)

const twoCells = "2 1\n1 2 3 4\n0 10 0 200\n"

func TestFormat(t *testing.T) {
	for _, x := range []struct {
		g    api.Grid
		want string
	}{
		{api.Grid{Wide: 2, High: 1, Cells: []api.Cell{{1, 2, 3, 4}, {0, 10, 0, 200}}}, twoCells},
		{api.Grid{Wide: 1, High: 2, Cells: []api.Cell{{}, {0, 0, api.MaxMass}}}, "1 2\n0 0 0 0\n0 0 1000000000 0\n"},
		{filled(64, 1, 1, 0), "64 1\n" + strings.Repeat("0 0 0 0\n", 64)},
	} {
		if s := grid.Format(x.g); s != x.want {
			t.Errorf("Format(%v) = %q, want %q", x.g, s, x.want)
		}
		if g, line, e := grid.Parse(x.want); !equal(g, x.g) || line != 0 || e != api.OK {
			t.Errorf("Parse(%q) = %v, %d, %d", x.want, g, line, e)
		}
	}
}

func TestRoundTrip(t *testing.T) {
	for _, g := range validGrids() {
		if h, line, e := grid.Parse(grid.Format(g)); !equal(h, g) || line != 0 || e != api.OK {
			t.Errorf("Parse(Format) of %d by %d: line %d, error %d", g.Wide, g.High, line, e)
		}
	}
}

func TestSum(t *testing.T) {
	sums := map[uint64]string{}
	for _, g := range validGrids() {
		text := grid.Format(g)
		want := fnv.New64a()
		want.Write([]byte(text))
		n, e := grid.Sum(g)
		if n != want.Sum64() || e != api.OK {
			t.Errorf("Sum of %d by %d = %d, %d", g.Wide, g.High, n, e)
		}
		if other, ok := sums[n]; ok && other != text {
			t.Errorf("%q and %q have the same sum", other, text)
		}
		sums[n] = text
	}
	if n, e := grid.Sum(filled(1, 1, 1, 0)); n != 0xae7a20ed7a2338ed || e != api.OK {
		t.Errorf("Sum of an empty cell = %#x, %d", n, e)
	}
}

func TestParseErrors(t *testing.T) {
	for _, x := range []struct {
		s    string
		line int
	}{
		{"", 0}, {"\n", 0}, {"\n1 1\n0 0 0 0\n", 0}, {"1 1", 0}, {"1", 0}, {"1\n", 0}, {"1 1 1\n", 0}, {"1 1 \n", 0}, {" 1 1\n", 0}, {"1  1\n", 0}, {"1\t1\n", 0}, {"1 1\r\n", 0}, {"x 1\n", 0}, {"1 x\n", 0},
		{"0 1\n", 0}, {"1 0\n", 0}, {"65 1\n", 0}, {"1 65\n", 0}, {"64 17\n", 0}, {"-1 -1\n", 0}, {"01 1\n", 0}, {"1 01\n", 0}, {"+1 1\n", 0}, {"1 1.0\n", 0}, {"1 0x1\n", 0},
		{"4294967296 4294967296\n", 0}, {"18446744073709551617 1\n", 0}, {"1 -9223372036854775808\n", 0}, {"1_0 1\n", 0}, {"１ 1\n", 0}, {"1 1\x00\n", 0},
		{"1 1\n", 1}, {"1 1\n\n", 1}, {"1 1\n0", 1}, {"1 1\n0 0 0 0", 1}, {"1 1\n0 0 0\n", 1}, {"1 1\n0 0 0 0 0\n", 1}, {"1 1\n0 0 0 0 \n", 1}, {"1 1\n 0 0 0 0\n", 1}, {"1 1\n0 0  0 0\n", 1},
		{"1 1\n0 0 -1 0\n", 1}, {"1 1\n0 0 -0 0\n", 1}, {"1 1\n0 0 00 0\n", 1}, {"1 1\n0 0 01 0\n", 1}, {"1 1\n+0 0 0 0\n", 1}, {"1 1\n0 0 0 x\n", 1}, {"1 1\n0,0,0,0\n", 1},
		{"1 1\n1000000001 0 0 0\n", 1}, {"1 1\n1000000000 0 0 1\n", 1}, {"1 1\n0 0 0 18446744073709551616\n", 1}, {"1 1\n9223372036854775807 9223372036854775807 2 0\n", 1}, {"1 1\n-1 1 0 0\n", 1},
		{"1 1\n0 0 0 0\n\n", 2}, {"1 1\n0 0 0 0\nx", 2}, {"1 1\n0 0 0 0\n0 0 0 0\n", 2}, {"1 1\n0 0 0 0\n ", 2}, {"1 1\n0 0 0 0\n\n\n\n", 2}, {"1 1\n0 0 0 0\nx\ny\n", 2},
		{"2 1\n0 0 0 0\n", 2}, {"2 1\n0 0 0 0\n\n", 2}, {"2 1\n0 0 0 0\n0 0 0 0", 2}, {"2 1\n0 0 0\n0 0 0 0\n", 1}, {"2 1\n0 0 0 0\n0 0 0\n", 2}, {"2 1\n0 0 0 x\n\n", 1},
		{"2 1\n1000000000 0 0 0\n1 0 0 0\n", 2}, {"2 1\n1 0 0 0\n0 0 0 1000000000\n", 2}, {"2 1\n1 0 0 1000000000\n0 0 0 0\n", 1}, {"2 1\n999999999 0 0 0\n1 1 0 0\n", 2}, {"3 1\n999999999 0 0 0\n1 0 0 0\n0 0 1 0\n", 3},
		{"2 1\n0 0 0 0\n0 0 0 0\n0 0 0 0\n", 3}, {"64 1\n" + strings.Repeat("0 0 0 0\n", 63), 64}, {"64 16\n" + strings.Repeat("0 0 0 0\n", 1023) + "0 0 0 0", 1024},
	} {
		if g, line, e := grid.Parse(x.s); !isZero(g) || line != x.line || e != api.ErrSyntax {
			t.Errorf("Parse(%q) = %v, %d, %d, want the line %d", x.s, g, line, e, x.line)
		}
	}
}

func TestParseLong(t *testing.T) {
	for _, word := range []string{"x", " ", "\n", "1 ", "1 1\n0 0 0 0\n"} {
		s := strings.Repeat(word, api.MaxText+1)
		if g, _, e := grid.Parse(s[:api.MaxText]); !isZero(g) || e != api.ErrSyntax {
			t.Errorf("Parse of MaxText bytes of %q = %v, %d", word, g, e)
		}
		if g, line, e := grid.Parse(s[:api.MaxText+1]); !isZero(g) || line != 0 || e != api.ErrLong {
			t.Errorf("Parse of one byte more of %q = %v, %d, %d", word, g, line, e)
		}
	}
}

var (
	sidesLine = regexp.MustCompile(`^[1-9][0-9]? [1-9][0-9]?$`)
	cellLine  = regexp.MustCompile(`^((0|[1-9][0-9]{0,9}) ){3}(0|[1-9][0-9]{0,9})$`)
)

// wrongLine returns the number of the first line with which no text of a valid grid begins; -1 if s is one.
func wrongLine(s string) int {
	lines := strings.Split(s, "\n")
	cells, mass := 0, 0
	for i, l := range lines[:len(lines)-1] {
		words := strings.Split(l, " ")
		switch {
		case i == 0 && sidesLine.MatchString(l):
			wide, _ := strconv.Atoi(words[0])
			high, _ := strconv.Atoi(words[1])
			if cells = wide * high; wide > 64 || high > 64 || cells > 1024 {
				return 0
			}
		case 0 < i && i <= cells && cellLine.MatchString(l):
			for _, w := range words {
				n, _ := strconv.Atoi(w)
				mass += n
			}
			if mass > 1000000000 {
				return i
			}
		default:
			return i
		}
	}
	if rest := lines[len(lines)-1]; rest != "" || len(lines) != cells+2 {
		return len(lines) - 1
	}
	return -1
}

// TestParseAsWritten changes texts at every place, and compares what Parse says with wrongLine.
func TestParseAsWritten(t *testing.T) {
	for _, s := range []string{"", "1 1\n0 0 0 0\n", twoCells, "1 3\n500000000 0 0 499999990\n0 9 0 0\n1 0 0 0\n", "63 16\n1 1 1 1\n", "12 12\n0 0 0 7\n"} {
		var texts []string
		for i := 0; i <= len(s); i++ {
			texts = append(texts, s[:i], s[i:])
			for _, sign := range strings.Split("0 1 2 9 - + . x \n \n\n \r \t  \xff 0\n \n0", " ") {
				texts = append(texts, s[:i]+sign+s[i:])
				if i < len(s) {
					texts = append(texts, s[:i]+sign+s[i+1:], s[:i]+" "+s[i+1:], s[:i]+" "+s[i:])
				}
			}
		}
		for _, text := range texts {
			g, line, e := grid.Parse(text)
			want := wrongLine(text)
			if want < 0 && (e != api.OK || line != 0 || grid.Format(g) != text) {
				t.Errorf("Parse(%q) = %v, %d, %d", text, g, line, e)
			}
			if want >= 0 && (e != api.ErrSyntax || line != want || !isZero(g)) {
				t.Errorf("Parse(%q) = %v, %d, %d, want the line %d", text, g, line, e, want)
			}
		}
	}
}

func TestParseIsNewMemory(t *testing.T) {
	a, _, _ := grid.Parse(twoCells)
	b, _, _ := grid.Parse(twoCells)
	if len(a.Cells) != 2 || len(b.Cells) != 2 {
		t.Fatalf("Parse(%q) = %v, %v", twoCells, a, b)
	}
	a.Cells[0] = api.Cell{9}
	if b.Cells[0] != (api.Cell{1, 2, 3, 4}) {
		t.Errorf("after a change of a result another one is %v", b)
	}
}
