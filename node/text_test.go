package node_test

import (
	"math"
	"regexp"
	"slices"
	"strconv"
	"strings"
	"testing"

	"slipstream/api"
	"slipstream/node"
)

func TestSorted(t *testing.T) {
	next := thrown(3)
	for _, count := range []int{0, 1, 2, 50, 3000} {
		for _, most := range []int{1, 2, 3, 50} {
			var l []api.Note
			for range count {
				l = append(l, api.Note{Step: next(most), From: next(most), To: next(most), Cell: next(most), Dir: next(most), Count: next(most) - 1})
			}
			// In the chapter's order, and with the same notes as often.
			if m := node.Sorted(l); !slices.Equal(m, sorted(l)) {
				t.Fatalf("Sorted(%v) = %v", l, m)
			}
		}
	}
	// Each field is asked before those that stand behind it in the chapter's order; the last one decides where all others are equal.
	want := []api.Note{
		{Step: math.MinInt, From: 9, To: 9, Cell: 9, Dir: 9, Count: 9},
		{From: 9, To: math.MinInt, Cell: 9, Dir: 9, Count: 9},
		{From: 9, Cell: -1, Dir: 9, Count: 9},
		{From: 9, Dir: -1, Count: 9},
		{From: -1, Count: 9},
		{Count: -1}, {}, {}, {Count: 1},
		{From: 1, Count: -9},
		{From: -9, Dir: 1, Count: -9},
		{From: -9, Cell: 1, Dir: -9, Count: -9},
		{From: -9, To: math.MaxInt, Cell: -9, Dir: -9, Count: -9},
		{Step: math.MaxInt, From: -9, To: -9, Cell: -9, Dir: -9, Count: -9},
	}
	for range 20 {
		l := slices.Clone(want)
		for i := range l {
			j := next(i + 1)
			l[i], l[j] = l[j], l[i]
		}
		if m := node.Sorted(l); !slices.Equal(m, want) {
			t.Errorf("Sorted(%v) = %v", l, m)
		}
	}
}

func TestFormat(t *testing.T) {
	for _, c := range []struct {
		post []api.Note
		want string
	}{
		{nil, ""},
		{[]api.Note{}, ""},
		{[]api.Note{{}}, "0 0 0 0 0 0\n"},
		{[]api.Note{{Step: 2, From: 1, To: 0, Cell: 11, Dir: 3, Count: 5}}, "2 1 0 11 3 5\n"},
		{[]api.Note{{Step: 6, From: 5, To: 4, Cell: 3, Dir: 2, Count: 1}, {Step: 1, From: 20, To: 300, Cell: 4000, Dir: 50000, Count: api.MaxMass}, {}}, "6 5 4 3 2 1\n1 20 300 4000 50000 1000000000\n0 0 0 0 0 0\n"},
	} {
		if s := node.Format(c.post); s != c.want {
			t.Errorf("Format(%v) = %q", c.post, s)
		}
		if l, line, e := node.Parse(c.want); !slices.Equal(l, c.post) || line != 0 || e != api.OK {
			t.Errorf("Parse(%q) = %v, %d, %d", c.want, l, line, e)
		}
	}
	for _, wild := range []int{-1, math.MinInt} {
		for _, bad := range []api.Note{{Step: wild}, {From: wild}, {To: wild}, {Cell: wild}, {Dir: wild}, {Count: wild}} {
			for _, post := range [][]api.Note{{bad}, {{}, bad}, {bad, {}}} {
				if s := node.Format(post); s != "" {
					t.Errorf("Format(%v) = %q", post, s)
				}
			}
		}
	}
	// Format has no upper bound of a number, but one of how many notes there are.
	if s := node.Format([]api.Note{{Step: math.MaxInt, Count: api.MaxMass + 1}}); s != "9223372036854775807 0 0 0 0 1000000001\n" {
		t.Errorf("Format = %q", s)
	}
	if s := node.Format(make([]api.Note, api.MaxNotes)); s != strings.Repeat("0 0 0 0 0 0\n", api.MaxNotes) {
		t.Errorf("Format of MaxNotes has %d bytes", len(s))
	}
	if s := node.Format(make([]api.Note, api.MaxNotes+1)); s != "" {
		t.Errorf("Format of one note more has %d bytes", len(s))
	}
}

func TestRoundTrip(t *testing.T) {
	for _, x := range states() {
		if l, line, e := node.Parse(node.Format(x.post)); !slices.Equal(l, x.post) || line != 0 || e != api.OK {
			t.Errorf("Parse(Format(%v)) = %v, %d, %d", x.post, l, line, e)
		}
	}
	// So many notes are about the longest text that Parse allows.
	long := make([]api.Note, api.MaxText/12)
	if l, _, e := node.Parse(node.Format(long)); !slices.Equal(l, long) || e != api.OK {
		t.Errorf("Parse of a long text: %d notes, error %d", len(l), e)
	}
}

func TestParseErrors(t *testing.T) {
	const good = "1 2 3 4 5 6\n"
	for s, want := range map[string]int{
		"\n": 0, " ": 0, "x": 0, "1 2 3 4 5 6": 0, "1 2 3 4 5\n": 0, "1 2 3 4 5 6 7\n": 0, "1 2 3 4 5 6 \n": 0, " 1 2 3 4 5 6\n": 0, "1  2 3 4 5 6\n": 0, "1\t2 3 4 5 6\n": 0, "1 2 3 4 5 6\r\n": 0, "1 2 3 4 5 \n": 0, "\n" + good: 0,
		"-1 2 3 4 5 6\n": 0, "1 2 3 4 5 -6\n": 0, "1 2 -3 4 5 6\n": 0, "+1 2 3 4 5 6\n": 0, "1 02 3 4 5 6\n": 0, "1 2 3 4 5 06\n": 0, "1 2 3 00 5 6\n": 0, "1 2 3 -0 5 6\n": 0, "1 2 3 4 5 6x\n": 0, "1 2 3 0x4 5 6\n": 0, "1_0 2 3 4 5 6\n": 0, "1 2 3 4.0 5 6\n": 0, "1 2 3 4 5 ６\n": 0, "1 2 3 4 5 6\x00\n": 0,
		"1000000001 2 3 4 5 6\n": 0, "1 1000000001 3 4 5 6\n": 0, "1 2 1000000001 4 5 6\n": 0, "1 2 3 1000000001 5 6\n": 0, "1 2 3 4 1000000001 6\n": 0, "1 2 3 4 5 1000000001\n": 0, "1 2 3 4 5 9223372036854775808\n": 0, "18446744073709551617 2 3 4 5 6\n": 0,
		good + "\n": 1, good + "x": 1, good + " ": 1, good + "1 2 3 4 5 6": 1, good + "1 2 3\n" + good: 1, good + "1 2 3 4 5 -6\n": 1, good + good + "\n\n": 2, good + good + "1 2 3 4 5 6": 2, good + good + "1 2 3 4 5 1000000001\n" + good: 2,
		strings.Repeat(good, 5000) + "0": 5000,
	} {
		if l, line, e := node.Parse(s); len(l) != 0 || line != want || e != api.ErrSyntax {
			t.Errorf("Parse(%q) = %v, %d, %d, want the line %d", s[max(0, len(s)-50):], l, line, e, want)
		}
	}
	if l, line, e := node.Parse("1000000000 1000000000 1000000000 1000000000 1000000000 1000000000\n"); e != api.OK || line != 0 || len(l) != 1 || l[0].Dir != api.MaxMass {
		t.Errorf("Parse = %v, %d, %d", l, line, e)
	}
}

func TestParseLong(t *testing.T) {
	for _, word := range []string{"x", " ", "\n", "1 ", "0", "0 0 0 0 0 0\n"} {
		s := strings.Repeat(word, api.MaxText+1)
		if l, _, e := node.Parse(s[:api.MaxText]); len(l) != 0 || e != api.ErrSyntax {
			t.Errorf("Parse of MaxText bytes of %q = %v, %d", word, l, e)
		}
		if l, line, e := node.Parse(s[:api.MaxText+1]); len(l) != 0 || line != 0 || e != api.ErrLong {
			t.Errorf("Parse of one byte more of %q = %v, %d, %d", word, l, line, e)
		}
	}
	// A text of just MaxText bytes: 5460 lines of 12 bytes, and one of 16.
	s := strings.Repeat("0 0 0 0 0 0\n", 5460) + "10 10 10 10 0 0\n"
	if l, _, e := node.Parse(s); len(s) != api.MaxText || len(l) != 5461 || e != api.OK {
		t.Errorf("Parse of %d bytes: %d notes, error %d", len(s), len(l), e)
	}
}

var noteLine = regexp.MustCompile(`^((0|[1-9][0-9]{0,9}) ){5}(0|[1-9][0-9]{0,9})$`)

// wrongLine returns the number of the first line with which no text of notes begins; -1 if s is one.
func wrongLine(s string) int {
	lines := strings.Split(s, "\n")
	last := len(lines) - 1
	for i, l := range lines[:last] {
		if !noteLine.MatchString(l) {
			return i
		}
		for _, w := range strings.Split(l, " ") {
			if n, _ := strconv.Atoi(w); n > 1000000000 {
				return i
			}
		}
	}
	if lines[last] != "" {
		return last
	}
	return -1
}

// TestParseAsWritten changes texts at every place, and compares what Parse says with wrongLine.
func TestParseAsWritten(t *testing.T) {
	for _, s := range []string{"", "0 0 0 0 0 0\n", "1 2 3 4 5 6\n10 20 30 40 0 1000000000\n", "3 1 0 2 1 7\n3 1 0 2 1 7\n1 1 1 1 1 999999999\n"} {
		var texts []string
		for i := 0; i <= len(s); i++ {
			texts = append(texts, s[:i], s[i:])
			for _, sign := range strings.Split("0,1,2,9,-,+,.,x, ,\n,\n\n,\r,\t,\xff,0\n,\n0", ",") {
				texts = append(texts, s[:i]+sign+s[i:])
				if i < len(s) {
					texts = append(texts, s[:i]+sign+s[i+1:])
				}
			}
		}
		for _, text := range texts {
			l, line, e := node.Parse(text)
			want := wrongLine(text)
			if want < 0 && (e != api.OK || line != 0 || node.Format(l) != text) {
				t.Errorf("Parse(%q) = %v, %d, %d", text, l, line, e)
			}
			if want >= 0 && (e != api.ErrSyntax || line != want || len(l) != 0) {
				t.Errorf("Parse(%q) = %v, %d, %d, want the line %d", text, l, line, e, want)
			}
		}
	}
}
