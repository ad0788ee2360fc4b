package phase_test

import (
	"regexp"
	"strconv"
	"strings"
	"testing"

	"slipstream/api"
	"slipstream/phase"
)

const (
	twoCells = "2 1\n1 2 3 4 5 6 7 8\n0 10 0 200 3000 0 40 0\n"
	noCell   = "0 0 0 0 0 0 0 0\n"
)

func TestFormat(t *testing.T) {
	for _, c := range []struct {
		x    api.Mix
		want string
	}{
		{api.Mix{Wide: 2, High: 1, A: []api.Cell{{1, 2, 3, 4}, {0, 10, 0, 200}}, B: []api.Cell{{5, 6, 7, 8}, {3000, 0, 40}}}, twoCells},
		{api.Mix{Wide: 1, High: 2, A: []api.Cell{{}, {}}, B: []api.Cell{{}, {0, 0, 0, api.MaxMass}}}, "1 2\n" + noCell + "0 0 0 0 0 0 0 1000000000\n"},
		{empty(64, 1), "64 1\n" + strings.Repeat(noCell, 64)},
	} {
		if s := phase.Format(c.x); s != c.want {
			t.Errorf("Format(%v) = %q, want %q", c.x, s, c.want)
		}
		if y, line, e := phase.Parse(c.want); !equal(y, c.x) || line != 0 || e != api.OK {
			t.Errorf("Parse(%q) = %v, %d, %d", c.want, y, line, e)
		}
	}
}

func TestRoundTrip(t *testing.T) {
	// With six and seven digits everywhere the text is about as long as can be.
	long := empty(32, 32)
	for i := range long.A {
		for dir := range 4 {
			long.A[i][dir], long.B[i][dir] = 100000, 100000
		}
		if i < 200 {
			long.A[i][i%4] = 1000000
		}
	}
	for _, x := range append(mixes(), long) {
		if y, line, e := phase.Parse(phase.Format(x)); !equal(y, x) || line != 0 || e != api.OK {
			t.Errorf("Parse(Format) of %d by %d: line %d, error %d", x.Wide, x.High, line, e)
		}
	}
}

func TestParseErrors(t *testing.T) {
	for s, want := range map[string]int{
		"": 0, "\n": 0, "1 1": 0, "1": 0, "1\n": 0, "1 1 1\n": 0, "1 1 \n": 0, " 1 1\n": 0, "1  1\n": 0, "1\t1\n": 0, "1 1\r\n": 0, "x 1\n": 0, "1 x\n": 0, "\n1 1\n" + noCell: 0, "1 1\x00\n": 0, "１ 1\n": 0,
		"0 1\n": 0, "1 0\n": 0, "65 1\n": 0, "1 65\n": 0, "64 17\n": 0, "-1 -1\n": 0, "01 1\n": 0, "1 01\n": 0, "+1 1\n": 0, "1 1.0\n": 0, "1 0x1\n": 0, "1_0 1\n": 0, "4294967296 4294967296\n": 0, "18446744073709551617 1\n": 0, "0 0\n" + noCell: 0,
		"1 1\n": 1, "1 1\n\n": 1, "1 1\n0": 1, "1 1\n0 0 0 0 0 0 0 0": 1, "1 1\n0 0 0 0\n": 1, "1 1\n0 0 0 0\n0 0 0 0\n": 1, "1 1\n0 0 0 0 0 0 0\n": 1, "1 1\n0 0 0 0 0 0 0 0 0\n": 1, "1 1\n0 0 0 0 0 0 0 0 \n": 1, "1 1\n 0 0 0 0 0 0 0 0\n": 1, "1 1\n0 0 0 0  0 0 0 0\n": 1,
		"1 1\n0 0 0 0 0 0 -1 0\n": 1, "1 1\n-1 1 0 0 0 0 0 0\n": 1, "1 1\n-1 0 0 0 1 0 0 0\n": 1, "1 1\n0 0 0 0 0 0 -0 0\n": 1, "1 1\n00 0 0 0 0 0 0 0\n": 1, "1 1\n0 0 0 0 0 0 0 01\n": 1, "1 1\n+0 0 0 0 0 0 0 0\n": 1, "1 1\n0 0 0 0 0 0 0 x\n": 1, "1 1\n0 0 0 0,0 0 0 0\n": 1, "1 1\n0 0 0 0 0 0 0 0\r\n": 1,
		"1 1\n1000000001 0 0 0 0 0 0 0\n": 1, "1 1\n0 0 0 0 0 0 0 1000000001\n": 1, "1 1\n1000000000 0 0 1 0 0 0 0\n": 1, "1 1\n0 0 0 0 1 0 0 1000000000\n": 1, "1 1\n1000000000 0 0 0 0 0 0 1\n": 1, "1 1\n500000000 0 0 0 0 500000001 0 0\n": 1,
		"1 1\n0 0 0 0 0 0 0 18446744073709551616\n": 1, "1 1\n9223372036854775807 9223372036854775807 2 0 0 0 0 0\n": 1, "1 1\n1000000000 0 0 0 9223372036854775807 0 0 0\n": 1, "1 1\n9223372036854775807 0 0 0 9223372036854775807 2 0 0\n": 1,
		"1 1\n" + noCell + "\n": 2, "1 1\n" + noCell + "x": 2, "1 1\n" + noCell + noCell: 2, "1 1\n" + noCell + " ": 2, "1 1\n" + noCell + "\n\n\n": 2,
		"2 1\n" + noCell: 2, "2 1\n" + noCell + "\n": 2, "2 1\n" + noCell + "0 0 0 0 0 0 0 0": 2, "2 1\n0 0 0\n" + noCell: 1, "2 1\n" + noCell + "0 0 0\n": 2, "2 1\n0 0 0 0 0 0 0 x\n\n": 1,
		"2 1\n1000000000 0 0 0 0 0 0 0\n1 0 0 0 0 0 0 0\n": 2, "2 1\n1000000000 0 0 0 0 0 0 0\n0 0 0 0 0 0 0 1\n": 2, "2 1\n0 0 0 0 0 0 1 0\n0 0 0 1000000000 0 0 0 0\n": 2, "2 1\n1 0 0 0 1000000000 0 0 0\n" + noCell: 1,
		"2 1\n999999998 0 0 0 1 0 0 0\n1 0 0 0 1 0 0 0\n": 2, "3 1\n999999998 0 0 0 1 0 0 0\n1 0 0 0 0 0 0 0\n0 0 0 0 0 1 0 0\n": 3,
		twoCells + noCell: 3, "64 1\n" + strings.Repeat(noCell, 63): 64, "64 16\n" + strings.Repeat(noCell, 1023) + noCell[:15]: 1024, "64 16\n" + strings.Repeat(noCell, 1025): 1025,
	} {
		if y, line, e := phase.Parse(s); !isZero(y) || line != want || e != api.ErrSyntax {
			t.Errorf("Parse(%q) = %v, %d, %d, want the line %d", s, y, line, e, want)
		}
	}
}

func TestParseLong(t *testing.T) {
	for _, word := range []string{"x", " ", "\n", "1 ", "1 1\n" + noCell} {
		s := strings.Repeat(word, api.MaxText+1)
		if y, _, e := phase.Parse(s[:api.MaxText]); !isZero(y) || e != api.ErrSyntax {
			t.Errorf("Parse of MaxText bytes of %q = %v, %d", word, y, e)
		}
		if y, line, e := phase.Parse(s[:api.MaxText+1]); !isZero(y) || line != 0 || e != api.ErrLong {
			t.Errorf("Parse of one byte more of %q = %v, %d, %d", word, y, line, e)
		}
	}
}

var (
	sidesLine = regexp.MustCompile(`^[1-9][0-9]? [1-9][0-9]?$`)
	cellsLine = regexp.MustCompile(`^((0|[1-9][0-9]{0,9}) ){7}(0|[1-9][0-9]{0,9})$`)
)

// wrongLine returns the number of the first line with which no text of a valid mix begins; -1 if s is one.
func wrongLine(s string) int {
	lines := strings.Split(s, "\n")
	cells, mass := 0, 0
	for i, l := range lines[:len(lines)-1] {
		words := strings.Split(l, " ")
		switch {
		case i == 0 && sidesLine.MatchString(l):
			wide, _ := strconv.Atoi(words[0])
			high, _ := strconv.Atoi(words[1])
			if cells = wide * high; wide > 64 || high > 64 || cells > 1024 {
				return 0
			}
		case 0 < i && i <= cells && cellsLine.MatchString(l):
			for _, w := range words {
				n, _ := strconv.Atoi(w)
				mass += n
			}
			if mass > 1000000000 {
				return i
			}
		default:
			return i
		}
	}
	if rest := lines[len(lines)-1]; rest != "" || len(lines) != cells+2 {
		return len(lines) - 1
	}
	return -1
}

// TestParseAsWritten changes texts at every place, and compares what Parse says with wrongLine.
func TestParseAsWritten(t *testing.T) {
	for _, s := range []string{"", "1 1\n" + noCell, twoCells, "1 3\n300000000 0 0 299999990 0 0 0 400000000\n0 9 0 0 0 0 0 0\n0 0 0 0 1 0 0 0\n", "63 16\n1 1 1 1 1 1 1 1\n", "12 12\n0 0 0 7 0 0 0 0\n"} {
		var texts []string
		for i := 0; i <= len(s); i++ {
			texts = append(texts, s[:i], s[i:])
			for _, sign := range strings.Split("0,1,2,9,-,+,.,x, ,\n,\n\n,\r,\t,\xff,0\n,\n0", ",") {
				texts = append(texts, s[:i]+sign+s[i:])
				if i < len(s) {
					texts = append(texts, s[:i]+sign+s[i+1:])
				}
			}
		}
		for _, text := range texts {
			y, line, e := phase.Parse(text)
			want := wrongLine(text)
			if want < 0 && (e != api.OK || line != 0 || phase.Format(y) != text) {
				t.Errorf("Parse(%q) = %v, %d, %d", text, y, line, e)
			}
			if want >= 0 && (e != api.ErrSyntax || line != want || !isZero(y)) {
				t.Errorf("Parse(%q) = %v, %d, %d, want the line %d", text, y, line, e, want)
			}
		}
	}
}
