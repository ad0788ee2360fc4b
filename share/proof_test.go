package share_test

import (
	"math"
	"slices"
	"testing"

	"slipstream/api"
	"slipstream/share"
)

func TestProof(t *testing.T) {
	for _, c := range []struct {
		loads []int
		k     int
		proof [][2]int
		e     api.Errno
	}{
		{chapter(), 1, [][2]int{{0, 4}}, api.OK}, {chapter(), 2, [][2]int{{0, 2}, {2, 4}}, api.OK}, {chapter(), 3, [][2]int{{4, 4}}, api.OK}, {chapter(), 16, [][2]int{{4, 4}}, api.OK},
		{[]int{5, 3, 5}, 3, [][2]int{{0, 0}}, api.OK}, {[]int{0, 5, 0}, 1, [][2]int{{1, 1}}, api.OK}, {[]int{7}, 1, [][2]int{{0, 0}}, api.OK}, {[]int{0, 0}, 1, nil, api.ErrNone}, {[]int{0, 0}, 3, nil, api.ErrNone},
		{[]int{0, 2, 0, 2, 0}, 1, [][2]int{{0, 3}}, api.OK}, {[]int{2, 2, 2, 2}, 3, [][2]int{{0, 1}, {1, 2}, {2, 3}}, api.OK}, {[]int{1, 1, 1, 1, 1}, 2, [][2]int{{0, 2}, {2, 4}}, api.OK}, {[]int{1, 1, 1, 1, 1, 1}, 2, [][2]int{{0, 2}, {2, 4}}, api.OK},
	} {
		if p, e := share.Proof(c.loads, c.k); !slices.Equal(p, c.proof) || e != c.e {
			t.Errorf("%v among %d: %v, %d", c.loads, c.k, p, e)
		}
	}
}

// proofOf returns the proof for a bound below the least peak as the chapter tells it.
func proofOf(loads []int, k, bound int) [][2]int {
	for column, load := range loads {
		if load > bound {
			return [][2]int{{column, column}}
		}
	}
	var p [][2]int
	from := 0
	for range k {
		end := from
		for total(loads[from:end+1]) <= bound {
			end++
		}
		p = append(p, [2]int{from, end})
		from = end
	}
	return p
}

// TestProofProves what Least says, and no more.
func TestProofProves(t *testing.T) {
	for _, loads := range slices.Concat(smallLoads(), greatLoads()) {
		for k := 1; k <= api.MaxShare; k++ {
			least := done[int](t)(share.Least(loads, k))
			p, e := share.Proof(loads, k)
			if least == 0 {
				if len(p) != 0 || e != api.ErrNone {
					t.Fatalf("%v among %d: %v, %d", loads, k, p, e)
				}
				continue
			}
			if e != api.OK || !slices.Equal(p, proofOf(loads, k, least-1)) {
				t.Fatalf("%v among %d: %v, %d, want %v", loads, k, p, e, proofOf(loads, k, least-1))
			}
			for _, b := range []int{0, least / 2, least - 1} {
				if !share.Proves(loads, k, b, p) {
					t.Fatalf("%v among %d: %v does not prove %d", loads, k, p, b)
				}
			}
			for _, b := range []int{least, least + 1, math.MaxInt, -1} {
				if share.Proves(loads, k, b, p) {
					t.Fatalf("%v among %d: %v proves %d", loads, k, p, b)
				}
			}
		}
	}
}

func TestProves(t *testing.T) {
	for _, c := range []struct {
		k, b int
		p    [][2]int
		want bool
	}{
		{2, 7, [][2]int{{0, 2}, {2, 4}}, true}, {2, 0, [][2]int{{0, 2}, {2, 4}}, true}, {2, 8, [][2]int{{0, 2}, {2, 4}}, false}, {2, 7, [][2]int{{0, 3}, {3, 4}}, false}, {2, 7, [][2]int{{1, 3}, {3, 4}}, false}, {2, 5, [][2]int{{1, 3}, {3, 4}}, true}, {2, 3, [][2]int{{0, 1}, {3, 4}}, true}, {2, 3, [][2]int{{0, 1}, {2, 4}}, true},
		{2, 4, [][2]int{{0, 1}, {3, 4}}, false}, {2, 4, [][2]int{{3, 4}, {0, 1}}, false}, {2, 3, [][2]int{{3, 4}, {0, 1}}, false}, {2, 3, [][2]int{{0, 2}, {1, 4}}, false}, {2, 3, [][2]int{{0, 2}, {0, 2}}, false}, {2, 7, [][2]int{{0, 2}}, false}, {2, 7, [][2]int{{0, 4}}, false},
		{1, 13, [][2]int{{0, 4}}, true}, {1, 14, [][2]int{{0, 4}}, false}, {1, 7, [][2]int{{0, 2}}, true}, {1, 4, [][2]int{{4, 4}}, true}, {1, 5, [][2]int{{4, 4}}, false}, {1, 7, [][2]int{{0, 2}, {2, 4}}, false},
		{3, 7, [][2]int{{0, 2}, {2, 4}}, false}, {3, 3, [][2]int{{0, 1}, {1, 2}, {2, 4}}, true}, {3, 3, [][2]int{{0, 1}, {1, 2}, {3, 4}}, true}, {3, 4, [][2]int{{0, 1}, {1, 2}, {3, 4}}, false}, {4, 3, [][2]int{{0, 1}, {1, 2}, {2, 3}, {3, 4}}, true}, {4, 4, [][2]int{{0, 1}, {1, 2}, {2, 3}, {3, 4}}, false},
		{5, 4, [][2]int{{4, 4}}, true}, {16, 4, [][2]int{{4, 4}}, true}, {17, 4, [][2]int{{4, 4}}, false}, {0, 4, [][2]int{{4, 4}}, false}, {2, 0, [][2]int{{1, 1}}, true}, {2, 1, [][2]int{{1, 1}}, false}, {2, 4, [][2]int{{4, 4}, {4, 4}}, false}, {2, 2, [][2]int{{0, 0}, {2, 2}}, false},
		{2, 2, [][2]int{{0, 0}, {1, 2}}, false}, {2, 2, [][2]int{{0, 1}, {2, 2}}, false}, {2, -1, [][2]int{{4, 4}}, false}, {2, math.MinInt, [][2]int{{4, 4}}, false}, {2, math.MaxInt, [][2]int{{4, 4}}, false}, {2, -1, [][2]int{{0, 2}, {2, 4}}, false}, {1, -1, [][2]int{{0, 0}}, false},
		{2, 0, nil, false}, {1, 0, [][2]int{}, false}, {2, 0, [][2]int{{5, 5}}, false}, {2, 0, [][2]int{{-1, -1}}, false}, {1, 0, [][2]int{{-1, 2}}, false}, {1, 0, [][2]int{{2, 5}}, false}, {1, 0, [][2]int{{3, 1}}, false}, {1, 0, [][2]int{{4, 0}}, false},
		{2, 0, [][2]int{{0, 2}, {2, 5}}, false}, {2, 0, [][2]int{{-1, 2}, {2, 4}}, false}, {2, 0, [][2]int{{0, 2}, {4, 2}}, false}, {2, 0, [][2]int{{2, 0}, {2, 4}}, false}, {1, 0, [][2]int{{math.MinInt, math.MaxInt}}, false}, {1, 0, [][2]int{{0, math.MaxInt}}, false}, {1, 0, [][2]int{{math.MinInt, 0}}, false},
		{1, 0, [][2]int{{math.MaxInt, math.MaxInt}}, false}, {1, 0, [][2]int{{math.MinInt, math.MinInt}}, false}, {2, 0, [][2]int{{0, 1}, {math.MaxInt, math.MinInt}}, false}, {2, 0, [][2]int{{0, 1}, {1, 2}, {2, 3}}, false}, {2, 0, slices.Repeat([][2]int{{4, 4}}, 1000), false},
	} {
		if share.Proves(chapter(), c.k, c.b, c.p) != c.want {
			t.Errorf("Proves of %v", c)
		}
	}
	for _, loads := range badLoads() {
		if share.Proves(loads, 1, 0, [][2]int{{0, 0}}) {
			t.Errorf("%v: Proves of wrong loads", loads)
		}
	}
}

// isProof is the chapter's sentence on proofs.
func isProof(loads []int, k, b int, p [][2]int) bool {
	for _, pair := range p {
		if pair[0] < 0 || pair[0] > pair[1] || pair[1] >= len(loads) || total(loads[pair[0]:pair[1]+1]) <= b {
			return false
		}
	}
	if len(p) == 1 && p[0][0] == p[0][1] {
		return true
	}
	for i, pair := range p {
		if pair[0] == pair[1] || i > 0 && pair[0] < p[i-1][1] {
			return false
		}
	}
	return len(p) == k
}

// TestProofStands: where pairs prove a bound, no share has a peak of the bound or less.
func TestProofStands(t *testing.T) {
	next := thrown(6)
	stood, fell := 0, 0
	for range 60000 {
		loads := thrownLoads(1+next(6), 1+next(6), next)
		k, b := 1+next(4), next(5)
		p := make([][2]int, next(k+2))
		if next(3) == 0 {
			p = make([][2]int, k)
		}
		from := 0
		for i := range p {
			p[i] = [2]int{from + next(2), from + 1 + next(3)}
			if next(8) == 0 {
				p[i] = [2]int{next(9) - 1, next(9) - 1}
			}
			from = max(p[i][1], 0)
		}
		is := share.Proves(loads, k, b, p)
		if is != isProof(loads, k, b, p) {
			t.Fatalf("%v: %v proves %d among %d: %v", loads, p, b, k, is)
		}
		if !is {
			fell++
			continue
		}
		stood++
		if leastPeak(loads, k) <= b {
			t.Fatalf("%v: %v proves %d among %d", loads, p, b, k)
		}
	}
	if stood < 3000 || fell < 3000 {
		t.Errorf("only %d and %d", stood, fell)
	}
}
