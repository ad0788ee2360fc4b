package level_test

import (
	"math/big"
	"regexp"
	"strings"
	"testing"

	"slipstream/api"
	"slipstream/grid"
	"slipstream/level"
)

func TestFormat(t *testing.T) {
	p := api.Patch{Coarse: empty(3, 4), X0: 1, Y0: 2, X1: 2, Y1: 3, Fine: empty(2, 2)}
	p.Coarse.Cells[0] = api.Cell{1, 2, 3, 4}
	p.Coarse.Cells[11] = api.Cell{0, 0, 0, 10}
	p.Fine.Cells[3] = api.Cell{70, 6, 5, 999999899}
	const zero = "0 0 0 0\n"
	want := "patch 1 2 2 3\n3 4\n1 2 3 4\n" + strings.Repeat(zero, 10) + "0 0 0 10\n2 2\n" + strings.Repeat(zero, 3) + "70 6 5 999999899\n"
	if s := level.Format(p); s != want {
		t.Errorf("Format = %q", s)
	}
	for _, p := range patches() {
		s := level.Format(p)
		if q, line, e := level.Parse(s); !samePatch(p, q) || line != 0 || e != api.OK {
			t.Errorf("Parse(%q) = %v, %d, %d", s, q, line, e)
		}
		head, rest, _ := strings.Cut(s, "\n")
		if rest != grid.Format(p.Coarse)+grid.Format(p.Fine) || !strings.HasPrefix(head, "patch ") {
			t.Errorf("Format(%v) = %q", p, s)
		}
	}
}

// lines returns the text of a patch line by line.
func lines(p api.Patch) []string {
	l := strings.SplitAfter(level.Format(p), "\n")
	return l[:len(l)-1]
}

func TestParseErrors(t *testing.T) {
	const head, coarse, fine, zero = "patch 1 1 2 2\n", "3 3\n", "2 2\n", "0 0 0 0\n"
	nine, four := strings.Repeat(zero, 9), strings.Repeat(zero, 4)
	good := head + coarse + nine + fine + four
	if p, line, e := level.Parse(good); e != api.OK || line != 0 || p.X1 != 2 {
		t.Fatalf("Parse = %v, %d, %d", p, line, e)
	}
	full := strings.Repeat(zero, 3) + "1000000000 0 0 0\n" + strings.Repeat(zero, 5)
	for s, want := range map[string]int{
		"": 0, "\n": 0, "patch": 0, "patch\n": 0, "patch 1 1 2 2": 0, "patch 1 1 2\n": 0, "patch 1 1 2 2 2\n": 0, "patch 1 1 2 2 \n": 0, " patch 1 1 2 2\n": 0, "patch  1 1 2 2\n": 0, "Patch 1 1 2 2\n": 0, "patches 1 1 2 2\n": 0, "1 1 2 2\n": 0, "patch 1 1 2 x\n": 0,
		"patch 65 1 2 2\n" + good[len(head):]: 0, "patch 1 65 2 2\n": 0, "patch 1 1 65 2\n": 0, "patch 1 1 2 65\n": 0, "patch -1 1 2 2\n": 0, "patch 1 1 2 -0\n": 0, "patch +1 1 2 2\n": 0, "patch 1 01 2 2\n": 0, "patch 1 1 18446744073709551618 2\n": 0, "patch 1 1 2 2\r\n": 0, "patch 1 1\t2 2\n": 0, "\n" + good: 0,
		head: 1, head + "3": 1, head + "3 3": 1, head + "3 x\n": 1, head + "0 3\n": 1, head + "65 3\n": 1, head + "64 17\n": 1, head + "\n" + coarse: 1, head + head: 1, "patch 64 64 64 64\n": 1, "patch 0 0 0 0\n": 1,
		head + coarse: 2, head + coarse + zero: 3, head + coarse + zero + "0 0 0": 3, head + coarse + zero + "0 0 0 -1\n" + nine: 3, head + coarse + zero[:7]: 2, head + coarse + nine[:71]: 10, head + coarse + "1000000001 0 0 0\n": 2,
		head + coarse + nine: 11, head + coarse + nine + "2 2": 11, head + coarse + nine + "2 x\n" + four: 11, head + coarse + nine + "0 2\n": 11, head + coarse + nine + zero: 11, head + coarse + nine + "\n": 11, head + coarse + nine + "x": 11,
		head + coarse + nine + fine: 12, head + coarse + nine + fine + zero: 13, head + coarse + nine + fine + "0 0 0 0 0\n" + four: 12, good[:len(good)-1]: 15, good[:len(good)-2]: 15, head + coarse + nine + fine + zero + zero + "x\n" + zero: 14,
		good + "\n": 16, good + "x": 16, good + zero: 16, good + good: 16, good + " ": 16,
		// Right line by line, but no valid patch.
		"patch 0 1 2 2\n" + good[len(head):]: 15, "patch 1 1 3 2\n" + good[len(head):]: 15, "patch 2 1 2 2\n" + good[len(head):]: 15, "patch 64 64 64 64\n" + good[len(head):]: 15, "patch 0 0 0 0\n" + good[len(head):]: 15, "patch 2 2 1 1\n" + good[len(head):]: 15,
		head + coarse + nine + "1 1\n" + zero: 12, head + coarse + nine + "4 2\n" + four + four: 19, head + "2 2\n" + four + "2 2\n" + four: 10, head + "1 1\n" + zero + "1 1\n" + zero: 4,
		head + coarse + strings.Repeat(zero, 4) + "0 0 1 0\n" + strings.Repeat(zero, 4) + fine + four: 15,
		head + coarse + full + fine + "0 1 0 0\n" + strings.Repeat(zero, 3):                           15,
		head + coarse + full + fine + "1000000000 0 0 0\n" + strings.Repeat(zero, 3):                  15,
		head + coarse + full + fine + "1000000000 0 0 0\n1 0 0 0\n" + strings.Repeat(zero, 2):         13,
		head + coarse + "1000000000 0 0 0\n0 0 0 1\n" + strings.Repeat(zero, 7) + fine + four:         3,
		"patch 0 1 2 2\n" + good[len(head):] + "x":                                                    16, head + coarse + nine + "1 1\n" + zero + zero: 13, "patch 0 1 2 2\n" + good[len(head):len(good)-1]: 15,
	} {
		if p, line, e := level.Parse(s); !isZeroPatch(p) || line != want || e != api.ErrSyntax {
			t.Errorf("Parse(%q) = %v, %d, %d, want the line %d", s, p, line, e, want)
		}
	}
}

func TestParseLong(t *testing.T) {
	for _, word := range []string{"x", " ", "\n", "patch ", "0 0 0 0\n"} {
		s := strings.Repeat(word, api.MaxText+1)
		if p, line, e := level.Parse(s[:api.MaxText]); !isZeroPatch(p) || line != 0 || e != api.ErrSyntax {
			t.Errorf("Parse of MaxText bytes of %q = %v, %d, %d", word, p, line, e)
		}
		if p, line, e := level.Parse(s[:api.MaxText+1]); !isZeroPatch(p) || line != 0 || e != api.ErrLong {
			t.Errorf("Parse of one byte more of %q = %v, %d, %d", word, p, line, e)
		}
	}
	// The first wrong line of a text of just MaxText bytes is far behind.
	s := level.Format(frame{32, 32, 7, 9, 23, 25}.of(90000, 90000, 1))
	s += strings.Repeat("x", api.MaxText-len(s))
	if p, line, e := level.Parse(s); !isZeroPatch(p) || line != 2051 || e != api.ErrSyntax {
		t.Errorf("Parse = %v, %d, %d", p, line, e)
	}
	if p, line, e := level.Parse(s + "x"); !isZeroPatch(p) || line != 0 || e != api.ErrLong {
		t.Errorf("Parse = %v, %d, %d", p, line, e)
	}
}

var (
	headLine = regexp.MustCompile(`^patch( (0|[1-9][0-9]?)){4}$`)
	sideLine = regexp.MustCompile(`^[1-9][0-9]? [1-9][0-9]?$`)
	cellLine = regexp.MustCompile(`^(0|[1-9][0-9]{0,9})( (0|[1-9][0-9]{0,9})){3}$`)
)

// numbers returns those among the words of a line.
func numbers(line string) []int {
	var l []int
	for _, w := range strings.Split(line, " ") {
		if n, ok := new(big.Int).SetString(w, 10); ok {
			l = append(l, int(n.Int64()))
		}
	}
	return l
}

// reader takes the lines of a text one by one, as the section 'Details' writes it.
type reader struct {
	lines []string
	at    int
}

// next returns the next line if it ends with a line feed and a pattern has it.
func (r *reader) next(pattern *regexp.Regexp) ([]int, bool) {
	if r.at+1 >= len(r.lines) || !pattern.MatchString(r.lines[r.at]) {
		return nil, false
	}
	l := numbers(r.lines[r.at])
	r.at++
	return l, true
}

// grid takes the lines of a grid.
func (r *reader) grid() (g api.Grid, ok bool) {
	sides, ok := r.next(sideLine)
	if !ok || sides[0] > 64 || sides[1] > 64 || sides[0]*sides[1] > 1024 {
		if ok {
			r.at--
		}
		return g, false
	}
	g = empty(sides[0], sides[1])
	mass := 0
	for i := range g.Cells {
		l, ok := r.next(cellLine)
		if !ok {
			return g, false
		}
		copy(g.Cells[i][:], l)
		mass += l[0] + l[1] + l[2] + l[3]
		if mass > 1000000000 {
			r.at--
			return g, false
		}
	}
	return g, true
}

// wrongLine returns the number of the first line with which no text of a valid patch begins; -1 if s is such a text.
func wrongLine(s string) int {
	r := &reader{lines: strings.Split(s, "\n")}
	head, ok := r.next(headLine)
	if !ok || head[0] > 64 || head[1] > 64 || head[2] > 64 || head[3] > 64 {
		return 0
	}
	p := api.Patch{X0: head[0], Y0: head[1], X1: head[2], Y1: head[3]}
	if p.Coarse, ok = r.grid(); !ok {
		return r.at
	}
	if p.Fine, ok = r.grid(); !ok {
		return r.at
	}
	if r.at+1 != len(r.lines) || r.lines[r.at] != "" {
		return r.at
	}
	if !level.Valid(p) {
		return r.at - 1
	}
	return -1
}

// TestParseAsWritten changes texts at every place, and compares what Parse says with wrongLine.
func TestParseAsWritten(t *testing.T) {
	heavy := frame{3, 3, 1, 1, 2, 2}.full(1)
	for _, p := range []api.Patch{frame{3, 3, 1, 1, 2, 2}.of(1, 1, 0), frame{4, 3, 1, 1, 3, 2}.of(30, 12, 1), heavy} {
		s := level.Format(p)
		l := lines(p)
		var texts []string
		for i := 0; i <= len(s); i++ {
			texts = append(texts, s[:i], s[i:])
			for _, sign := range strings.Split("0,1,2,9,-,+,.,x, ,\n,\n\n,\r,\t,\xff,0\n,\n0", ",") {
				texts = append(texts, s[:i]+sign+s[i:])
				if i < len(s) {
					texts = append(texts, s[:i]+sign+s[i+1:])
				}
			}
		}
		for i := range l {
			for j := range l {
				// A line taken out, doubled, or put in another one's place.
				other := append([]string{}, l...)
				other[i] = l[j]
				texts = append(texts, strings.Join(other, ""), strings.Join(l[:i], "")+l[j]+strings.Join(l[i:], ""))
			}
			texts = append(texts, strings.Join(l[:i], "")+strings.Join(l[i+1:], ""))
		}
		for _, text := range texts {
			q, line, e := level.Parse(text)
			want := wrongLine(text)
			if want < 0 && (e != api.OK || line != 0 || level.Format(q) != text) {
				t.Errorf("Parse(%q) = %v, %d, %d", text, q, line, e)
			}
			if want >= 0 && (e != api.ErrSyntax || line != want || !isZeroPatch(q)) {
				t.Errorf("Parse(%q) = %v, %d, %d, want the line %d", text, q, line, e, want)
			}
		}
	}
}
