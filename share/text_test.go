package share_test

import (
	"math"
	"slices"
	"strings"
	"testing"

	"slipstream/api"
	"slipstream/share"
)

func TestText(t *testing.T) {
	for _, c := range []struct {
		cuts []int
		text string
	}{
		{nil, ""}, {[]int{}, ""}, {[]int{0}, "0"}, {[]int{64}, "64"}, {[]int{0, 0}, "0 0"}, {[]int{0, 3, 3, 64}, "0 3 3 64"}, {[]int{1, 10, 20}, "1 10 20"}, {slices.Repeat([]int{7}, 15), strings.TrimSuffix(strings.Repeat("7 ", 15), " ")},
	} {
		if s := share.Format(c.cuts); s != c.text {
			t.Errorf("Format of %v = %q", c.cuts, s)
		}
		if l, e := share.Parse(c.text); !slices.Equal(l, c.cuts) || e != api.OK {
			t.Errorf("Parse of %q = %v, %d", c.text, l, e)
		}
	}
}

func TestFormatOfWrongCuts(t *testing.T) {
	for _, cuts := range [][]int{{-1}, {-1, 5}, {65}, {0, 65}, {3, 2}, {1, 3, 2}, {5, 5, 4, 6}, make([]int, 16), slices.Repeat([]int{64}, 17), make([]int, 1000), {math.MinInt}, {math.MaxInt}} {
		if s := share.Format(cuts); s != "" {
			t.Errorf("Format of %v = %q", cuts, s)
		}
	}
}

func TestRoundTrip(t *testing.T) {
	next := thrown(10)
	for range 3000 {
		cuts := thrownShare(1+next(64), 1+next(16), next)
		if l, e := share.Parse(share.Format(cuts)); !slices.Equal(l, cuts) || e != api.OK {
			t.Fatalf("%v became %v, %d", cuts, l, e)
		}
	}
}

func TestParseErrors(t *testing.T) {
	long := strings.Repeat("0 ", api.MaxText/2)
	for _, s := range []string{
		" ", "  ", " 0", "0 ", "0  1", "x", "0 x", "-1", "-0", "+1", "01", "00", "0 01", "65", "0 65", "3 2", "1 3 2", "1.5", "1e1", "0x1", "1_0", "0\n", "\n", "0\n1", "0,1", "0\t1", "0 1\x00", "٣",
		strings.TrimSuffix(strings.Repeat("0 ", 16), " "), "99999999999999999999", "9223372036854775808", "-9223372036854775809", "18446744073709551616", long, long[:api.MaxText-1], strings.Repeat("0", api.MaxText),
	} {
		if l, e := share.Parse(s); len(l) != 0 || e != api.ErrSyntax {
			t.Errorf("Parse of %.40q = %v, %d", s, l, e)
		}
	}
	for _, s := range []string{long + "0", long + "x", strings.Repeat("x", api.MaxText+1)} {
		if l, e := share.Parse(s); len(l) != 0 || e != api.ErrLong {
			t.Errorf("Parse of %d bytes = %v, %d", len(s), l, e)
		}
	}
}

// TestParseReadsJustSuchTexts changes texts: what can be read is what Format writes.
func TestParseReadsJustSuchTexts(t *testing.T) {
	next := thrown(16)
	const signs = "0123456789 -+\nx"
	was := 0
	for range 30000 {
		text := []byte(share.Format(thrownShare(64, 2+next(5), next)))
		for range 1 + next(2) {
			at := next(len(text))
			switch next(3) {
			case 0:
				text[at] = signs[next(len(signs))]
			case 1:
				text = slices.Insert(text, at, signs[next(len(signs))])
			case 2:
				text = slices.Delete(text, at, min(at+1, len(text)-1))
			}
		}
		l, e := share.Parse(string(text))
		if e == api.OK {
			was++
		}
		if e == api.OK && share.Format(l) != string(text) || e != api.OK && (len(l) != 0 || e != api.ErrSyntax) {
			t.Fatalf("Parse of %q = %v, %d", text, l, e)
		}
	}
	if was < 3000 {
		t.Errorf("only %d can be read", was)
	}
}
