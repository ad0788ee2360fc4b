package gauge_test

import (
	"regexp"
	"slices"
	"strconv"
	"strings"
	"testing"

	"slipstream/api"
	"slipstream/gauge"
)

func TestFormat(t *testing.T) {
	l := []api.Gauge{
		{From: 0, To: 3, Before: api.Span{Lo: 5, Hi: 6}, In: one(2), Out: one(1), After: one(3)},
		{From: 10, To: api.MaxStep, Before: api.Span{Lo: -api.MaxMass, Hi: api.MaxMass}, In: api.Span{Lo: -20, Hi: -3}, Out: api.Span{Lo: -4}, After: api.Span{Hi: 700}},
	}
	const text = "0 3 5 6 2 2 1 1 3 3\n10 1000000 -1000000000 1000000000 -20 -3 -4 0 0 700\n"
	if s := gauge.Format(l); s != text {
		t.Errorf("Format = %q", s)
	}
	if p, line, e := gauge.Parse(text); !slices.Equal(p, l) || line != 0 || e != api.OK {
		t.Errorf("Parse = %v, %d, %d", p, line, e)
	}
	for _, bad := range invalidLists() {
		if s := gauge.Format(bad); s != "" {
			t.Errorf("Format of %v = %q", bad, s)
		}
	}
}

func TestRoundTrip(t *testing.T) {
	all := validGauges()
	for i := range all {
		for _, n := range []int{1, 2, 7, api.MaxGauges} {
			l := all[i:min(i+n, len(all))]
			if p, line, e := gauge.Parse(gauge.Format(l)); !slices.Equal(p, l) || line != 0 || e != api.OK {
				t.Fatalf("Parse(Format(%v)) = %v, %d, %d", l, p, line, e)
			}
		}
	}
}

func TestParseErrors(t *testing.T) {
	const good, other = "0 3 5 6 2 2 1 1 3 3\n", "3 5 -3 -3 0 1 4 4 -2 0\n"
	full := strings.Repeat(good, api.MaxGauges)
	if l, line, e := gauge.Parse(full); len(l) != api.MaxGauges || line != 0 || e != api.OK {
		t.Errorf("Parse of %d lines = %d gauges, %d, %d", api.MaxGauges, len(l), line, e)
	}
	for s, want := range map[string]int{
		"": 0, "\n": 0, " ": 0, "x": 0, "0": 0, "0 3": 0, "0 3\n": 0, good[:len(good)-1]: 0, good[:len(good)-3] + "\n": 0, good[:len(good)-1] + " \n": 0, good[:len(good)-1] + " 3\n": 0, " " + good: 0, "\n" + good: 0, good[:len(good)-1] + "\r\n": 0,
		"0  3 5 6 2 2 1 1 3 3\n": 0, "0 3 5 6 2 2 1 1 3\n": 0, "0 3 5 6 2 2 1 1 3 x\n": 0, "0 3 5 6 2 2 1 1 3 +3\n": 0, "0 3 5 6 2 2 1 1 3 03\n": 0, "-0 3 5 6 2 2 1 1 3 3\n": 0, "0 3 5 6 2 2 1 1 -0 3\n": 0, "0 3 5 6 2 2 1 1 -03 3\n": 0, "0 3 5 6 2 2 1 1 - 3\n": 0, "0 3 5 6 2 2 1 1  3\n": 0, "00 3 5 6 2 2 1 1 3 3\n": 0, "0\t3 5 6 2 2 1 1 3 3\n": 0,
		"3 3 5 6 2 2 1 1 3 3\n": 0, "4 3 5 6 2 2 1 1 3 3\n": 0, "-1 3 5 6 2 2 1 1 3 3\n": 0, "0 1000001 5 6 2 2 1 1 3 3\n": 0, "0 3 6 5 2 2 1 1 3 3\n": 0, "0 3 5 6 3 2 1 1 3 3\n": 0, "0 3 5 6 2 2 2 1 3 3\n": 0, "0 3 5 6 2 2 1 1 4 3\n": 0, "0 3 5 1000000001 2 2 1 1 3 3\n": 0, "0 3 5 6 2 2 1 1 -1000000001 3\n": 0, "0 3 5 6 2 2 1 1 3 18446744073709551619\n": 0, "0 18446744073709551619 5 6 2 2 1 1 3 3\n": 0,
		good + "\n": 1, good + " ": 1, good + "x": 1, good + "0 3": 1, good + other[:len(other)-1]: 1, good + "\n" + other: 1, good + "3 5 -3 -3 0 1 4 4 -2\n": 1, good + "3 5 -3 -4 0 1 4 4 -2 0\n" + good: 1,
		good + other + "\n": 2, good + other + good[:5]: 2, good + other + other + "a\n" + other: 3,
		full + good: api.MaxGauges, full + "\n": api.MaxGauges, full + "x": api.MaxGauges, full + good[:len(good)-1]: api.MaxGauges, full + full: api.MaxGauges, full[len(good):] + "x\n" + good: api.MaxGauges - 1,
	} {
		if l, line, e := gauge.Parse(s); len(l) != 0 || line != want || e != api.ErrSyntax {
			t.Errorf("Parse(%q) = %v, %d, %d, want the line %d", s, l, line, e, want)
		}
	}
}

func TestParseLong(t *testing.T) {
	good := gauge.Format(slices.Repeat([]api.Gauge{middle()}, api.MaxGauges))
	for _, word := range []string{"x", " ", "\n", "0", "0 3 5 6 2 2 1 1 3 3\n", good} {
		s := strings.Repeat(word, api.MaxText+1)
		_, want, _ := gauge.Parse(s[:len(good)+len(word)])
		if l, line, e := gauge.Parse(s[:api.MaxText]); len(l) != 0 || line != want || e != api.ErrSyntax {
			t.Errorf("Parse of MaxText bytes of %q = %v, %d, %d", word, l, line, e)
		}
		if l, line, e := gauge.Parse(s[:api.MaxText+1]); len(l) != 0 || line != 0 || e != api.ErrLong {
			t.Errorf("Parse of one byte more of %q = %v, %d, %d", word, l, line, e)
		}
	}
}

var gaugeLine = regexp.MustCompile(`^(0|[1-9][0-9]{0,9}) ([1-9][0-9]{0,9})( (0|-?[1-9][0-9]{0,9})){8}\n$`)

// wrongLine returns the number of the first line with which no text of gauges begins; -1 if s is one.
func wrongLine(s string) int {
	lines := strings.SplitAfter(s, "\n")
	for i, line := range lines {
		if line == "" && i > 0 {
			return -1
		}
		if i == api.MaxGauges || !gaugeLine.MatchString(line) || !fits(strings.Fields(line)) {
			return i
		}
	}
	return -1
}

// fits reports whether the numbers of a line are those of a valid gauge.
func fits(words []string) bool {
	var n [10]int
	for i, w := range words {
		n[i], _ = strconv.Atoi(w)
	}
	if n[0] >= n[1] || n[1] > 1000000 {
		return false
	}
	for i := 2; i < 10; i += 2 {
		if n[i] > n[i+1] || n[i] < -1000000000 || n[i+1] > 1000000000 {
			return false
		}
	}
	return true
}

// TestParseAsWritten changes texts at every place, and compares what Parse says with wrongLine.
func TestParseAsWritten(t *testing.T) {
	right := 0
	for _, s := range []string{
		"0 3 5 6 2 2 1 1 3 3\n3 5 -3 -3 0 1 4 4 -2 0\n",
		"0 1000000 -1000000000 1000000000 -10 -9 -100 0 0 999\n",
		strings.Repeat("7 9 0 0 0 0 0 0 0 0\n", 4),
	} {
		var texts []string
		for i := 0; i <= len(s); i++ {
			texts = append(texts, s[:i], s[i:])
			for _, sign := range strings.Split("0,1,2,9,-,+,.,x, ,\n,\n\n,\r,\t,\xff,0\n,\n0, 0,-1, -", ",") {
				texts = append(texts, s[:i]+sign+s[i:])
				if i < len(s) {
					texts = append(texts, s[:i]+sign+s[i+1:])
				}
			}
		}
		for _, text := range texts {
			l, line, e := gauge.Parse(text)
			want := wrongLine(text)
			if want < 0 && (e != api.OK || line != 0 || gauge.Format(l) != text) {
				t.Errorf("Parse(%q) = %v, %d, %d", text, l, line, e)
			}
			if want >= 0 && (e != api.ErrSyntax || line != want || len(l) != 0) {
				t.Errorf("Parse(%q) = %v, %d, %d, want the line %d", text, l, line, e, want)
			}
			if want < 0 {
				right++
			}
		}
	}
	if right < 100 {
		t.Errorf("only %d texts are right", right)
	}
}
