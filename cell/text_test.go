package cell_test

import (
	"slices"
	"strings"
	"testing"

	"slipstream/api"
	"slipstream/cell"
)

func TestFormat(t *testing.T) {
	for _, x := range []struct {
		l    []api.Rule
		want string
	}{
		{[]api.Rule{none()}, "none"},
		{[]api.Rule{turn()}, "turn"},
		{[]api.Rule{shift(0)}, "shift:0"},
		{[]api.Rule{none(), turn(), shift(-3)}, "none turn shift:-3"},
		{[]api.Rule{shift(api.MaxMass), shift(-api.MaxMass)}, "shift:1000000000 shift:-1000000000"},
		{[]api.Rule{shift(10), turn(), turn(), none()}, "shift:10 turn turn none"},
		{make([]api.Rule, api.MaxRules), "none none none none none none none none"},
	} {
		if s := cell.Format(x.l); s != x.want {
			t.Errorf("Format(%v) = %q, want %q", x.l, s, x.want)
		}
		if l, e := cell.Parse(x.want); e != api.OK || !slices.Equal(l, x.l) {
			t.Errorf("Parse(%q) = %v, %d, want %v", x.want, l, e, x.l)
		}
	}
	for _, l := range invalidLists() {
		if s := cell.Format(l); s != "" {
			t.Errorf("Format(%v) = %q", l, s)
		}
	}
	for _, r := range invalidRules() {
		if s := cell.Format([]api.Rule{r}); s != "" {
			t.Errorf("Format(%v) = %q", r, s)
		}
	}
}

func TestRoundTrip(t *testing.T) {
	rules := validRules()
	for i := range rules {
		for n := 1; n <= api.MaxRules && i+n <= len(rules); n++ {
			l := rules[i : i+n]
			if m, e := cell.Parse(cell.Format(l)); e != api.OK || !slices.Equal(l, m) {
				t.Errorf("Parse(Format(%v)) = %v, %d", l, m, e)
			}
		}
	}
}

func TestParseErrors(t *testing.T) {
	for _, s := range []string{
		"", " ", "turns", "turn ", " turn", "none  none", "none\tnone", "none\n", "none\nnone", "none,none", "None", "TURN", "non", "none none none none none none none none none",
		"shift", "shift:", "shift: 1", "shift 1", "shift:-", "shift:+1", "shift:-0", "shift:00", "shift:01", "shift:-01", "shift:1_0", "shift:0x1", "shift:1.0", "shift:1e3", "shift:x", "shift:shift:1", "shift:１", "Shift:1", "1",
		"shift:1000000001", "shift:-1000000001", "shift:9223372036854775808", "shift:-9223372036854775809", "shift:18446744073709551617", "shift:1:", "turn:0", "turn:1", "none:0", "turn shift:", "none x turn", "none\x00", "\xff",
	} {
		if l, e := cell.Parse(s); len(l) != 0 || e != api.ErrSyntax {
			t.Errorf("Parse(%q) = %v, %d", s, l, e)
		}
	}
}

func TestParseLong(t *testing.T) {
	for _, word := range []string{"x", "turn ", "shift:1", " "} {
		s := strings.Repeat(word, api.MaxText)
		if l, e := cell.Parse(s[:api.MaxText]); len(l) != 0 || e != api.ErrSyntax {
			t.Errorf("Parse of MaxText bytes of %q: %v, %d", word, l, e)
		}
		if l, e := cell.Parse((s + "x")[:api.MaxText+1]); len(l) != 0 || e != api.ErrLong {
			t.Errorf("Parse of one byte more of %q: %v, %d", word, l, e)
		}
	}
}

func TestParseIsNewMemory(t *testing.T) {
	const text = "turn shift:2"
	a, _ := cell.Parse(text)
	b, _ := cell.Parse(text)
	if len(a) != 2 || len(b) != 2 {
		t.Fatalf("Parse(%q) = %v, %v", text, a, b)
	}
	a[0] = shift(7)
	if c, _ := cell.Parse(text); b[0] != turn() || len(c) != 2 || c[0] != turn() {
		t.Errorf("after a change of a result: %v, %v", b, c)
	}
}
