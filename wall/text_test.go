package wall_test

import (
	"strings"
	"testing"

	"slipstream/api"
	"slipstream/wall"
)

// signs are all that stand for walls: by kind and body.
const signs = "abcdefghi" + "jklmnopqr" + "ABCDEFGHI"

func TestFormat(t *testing.T) {
	g := filled(9, 4, 3, 1)
	w := opened(g)
	for kind := 1; kind <= 3; kind++ {
		for body := 1; body <= 9; body++ {
			i := 9*kind + body - 1
			w.Kind[i], w.Body[i] = kind, body
		}
	}
	text := ".........\nabcdefghi\njklmnopqr\nABCDEFGHI\n"
	if s := wall.Format(g, w); s != text {
		t.Errorf("Format = %q", s)
	}
	if p, line, e := wall.Parse(g, text); !equalWalls(p, w) || line != 0 || e != api.OK {
		t.Errorf("Parse = %v, %d, %d", p, line, e)
	}
	column := filled(1, 3, 3, 1)
	if s := wall.Format(column, api.Wall{Kind: []int{3, 0, 1}, Body: []int{2, 0, 9}}); s != "B\n.\ni\n" {
		t.Errorf("Format = %q", s)
	}
}

func TestRoundTrip(t *testing.T) {
	for _, x := range places() {
		if w, line, e := wall.Parse(x.g, wall.Format(x.g, x.w)); !equalWalls(w, x.w) || line != 0 || e != api.OK {
			t.Errorf("Parse(Format) of %d by %d: line %d, error %d", x.g.Wide, x.g.High, line, e)
		}
	}
}

func TestAllSigns(t *testing.T) {
	g := filled(1, 1, 3, 1)
	for b := range 256 {
		text := string([]byte{byte(b), '\n'})
		w, line, e := wall.Parse(g, text)
		want := api.Wall{Kind: []int{0}, Body: []int{0}}
		i := strings.IndexByte(signs, byte(b))
		if i >= 0 {
			want = api.Wall{Kind: []int{1 + i/9}, Body: []int{1 + i%9}}
		}
		switch {
		case i < 0 && b != '.':
			if !isZeroWall(w) || line != 0 || e != api.ErrSyntax {
				t.Errorf("Parse(%q) = %v, %d, %d", text, w, line, e)
			}
		case !equalWalls(w, want) || line != 0 || e != api.OK:
			t.Errorf("Parse(%q) = %v, %d, %d", text, w, line, e)
		}
	}
}

func TestParseErrors(t *testing.T) {
	g := filled(3, 2, 3, 1)
	for s, want := range map[string]int{
		"": 0, "\n": 0, "...": 0, "..\n...\n": 0, "....\n...\n": 0, "..s\n...\n": 0, "..J\n...\n": 0, "...\r\n...\n": 0, " ...\n...\n": 0, "... \n...\n": 0, "\n...\n...\n": 0, "\x00..\n...\n": 0, "..é\n...\n": 0,
		"...\n": 1, "...\n\n": 1, "...\n..": 1, "...\n...": 1, "...\n..\n": 1, "...\n....\n": 1, "...\n..0\n": 1, "...\n..`\n": 1, "...\n..@\n": 1, "...\n..\n...\n": 1, "..a\njA/\n": 1, "...\n..\xff\n": 1,
		"...\n...\n\n": 2, "...\n...\n...": 2, "...\n...\n...\n": 2, "...\n...\nx": 2, "...\n...\n ": 2, "...\n...\n\n\n": 2, "xyz\nxyz": 0,
	} {
		if w, line, e := wall.Parse(g, s); !isZeroWall(w) || line != want || e != api.ErrSyntax {
			t.Errorf("Parse(%q) = %v, %d, %d, want the line %d", s, w, line, e, want)
		}
	}
}

// wrongLine returns the number of the first line with which no text of a wall for the grid begins; -1 if s is one.
func wrongLine(g api.Grid, s string) int {
	lines := strings.SplitAfter(s, "\n")
	for i := range g.High {
		if i >= len(lines) || len(lines[i]) != g.Wide+1 || strings.Trim(lines[i][:g.Wide], "."+signs) != "" || lines[i][g.Wide] != '\n' {
			return i
		}
		for _, b := range []byte(lines[i][:g.Wide]) {
			if !strings.Contains("."+signs, string(rune(b))) {
				return i
			}
		}
	}
	if len(s) != g.High*(g.Wide+1) {
		return g.High
	}
	return -1
}

// TestParseAsWritten changes texts at every place, and compares what Parse says with wrongLine.
func TestParseAsWritten(t *testing.T) {
	for _, x := range smallPlaces() {
		if len(x.g.Cells) > 15 {
			continue
		}
		s := wall.Format(x.g, x.w)
		var texts []string
		for i := 0; i <= len(s); i++ {
			texts = append(texts, s[:i], s[i:], s+s[:i])
			for _, sign := range []string{".", "a", "i", "r", "s", "I", "J", "\n", "\r", " ", "\x00", "\xff", "..", ".\n"} {
				texts = append(texts, s[:i]+sign+s[i:])
				if i < len(s) {
					texts = append(texts, s[:i]+sign+s[i+1:])
				}
			}
		}
		for _, text := range texts {
			w, line, e := wall.Parse(x.g, text)
			want := wrongLine(x.g, text)
			if want < 0 && (e != api.OK || line != 0 || wall.Format(x.g, w) != text) {
				t.Errorf("Parse(%q) = %v, %d, %d", text, w, line, e)
			}
			if want >= 0 && (e != api.ErrSyntax || line != want || !isZeroWall(w)) {
				t.Errorf("Parse(%q) = %v, %d, %d, want the line %d", text, w, line, e, want)
			}
		}
	}
}

func TestParseLong(t *testing.T) {
	g := filled(4, 3, 3, 1)
	for _, word := range []string{"x", ".", "\n", "....\n"} {
		s := strings.Repeat(word, api.MaxText+1)
		if w, _, e := wall.Parse(g, s[:api.MaxText]); !isZeroWall(w) || e != api.ErrSyntax {
			t.Errorf("Parse of MaxText bytes of %q: %d", word, e)
		}
		if w, line, e := wall.Parse(g, s[:api.MaxText+1]); !isZeroWall(w) || line != 0 || e != api.ErrLong {
			t.Errorf("Parse of one byte more of %q: %d in line %d", word, e, line)
		}
	}
}

func TestParseInvalid(t *testing.T) {
	long := strings.Repeat(".", api.MaxText+1)
	for _, x := range invalidPlaces() {
		if wall.Valid(x.g, opened(x.g)) {
			continue
		}
		for _, s := range []string{"", "..\n..\n", "x", long} {
			if w, line, e := wall.Parse(x.g, s); !isZeroWall(w) || line != 0 || e != api.ErrInvalid {
				t.Errorf("Parse for %v = %v, %d, %d", x.g, w, line, e)
			}
		}
	}
}
