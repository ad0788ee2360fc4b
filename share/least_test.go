package share_test

import (
	"math"
	"slices"
	"testing"

	"slipstream/api"
	"slipstream/share"
)

func TestLeast(t *testing.T) {
	for _, c := range []struct {
		loads    []int
		k, least int
		best     []int
	}{
		{chapter(), 1, 14, nil}, {chapter(), 2, 8, []int{3}}, {chapter(), 3, 5, []int{2, 4}}, {chapter(), 4, 5, []int{0, 2, 4}}, {chapter(), 16, 5, append(make([]int, 13), 2, 4)},
		{[]int{0, 0, 0}, 2, 0, []int{0}}, {[]int{0}, 3, 0, []int{0, 0}}, {[]int{7}, 1, 7, nil}, {[]int{7}, 2, 7, []int{0}}, {[]int{0, 7, 0}, 2, 7, []int{0}},
		{[]int{1, 0, 0, 1}, 2, 1, []int{1}}, {[]int{0, 1, 0, 1, 0}, 2, 1, []int{2}}, {[]int{2, 1, 1, 2}, 3, 2, []int{1, 3}}, {[]int{2, 2, 2, 2}, 3, 4, []int{0, 2}},
		{slices.Repeat([]int{most}, 64), 1, all, nil}, {slices.Repeat([]int{most}, 64), 2, all / 2, []int{32}}, {slices.Repeat([]int{most}, 64), 3, 22 * most, []int{20, 42}},
	} {
		n, e := share.Least(c.loads, c.k)
		l, f := share.Best(c.loads, c.k)
		if n != c.least || !slices.Equal(l, c.best) || e != api.OK || f != api.OK {
			t.Errorf("%v among %d: %d, %v", c.loads, c.k, n, l)
		}
	}
}

// TestBestOfAll looks at all shares: the first one with the least peak is the best.
func TestBestOfAll(t *testing.T) {
	for _, loads := range smallLoads() {
		for k := 1; k <= 5; k++ {
			var best []int
			least := math.MaxInt
			for _, cuts := range sharesOf(len(loads), k) {
				if peak := slices.Max(weighed(loads, cuts)); peak < least {
					best, least = cuts, peak
				}
			}
			n, e := share.Least(loads, k)
			l, f := share.Best(loads, k)
			if n != least || !slices.Equal(l, best) || e != api.OK || f != api.OK {
				t.Fatalf("%v among %d: %d, %v, want %d, %v", loads, k, n, l, least, best)
			}
		}
	}
}

// TestBestOfMany: of many columns too Best has the least peak, and with no cut further left, and any ones behind it, it can be kept.
func TestBestOfMany(t *testing.T) {
	for _, loads := range greatLoads() {
		for k := 1; k <= api.MaxShare; k++ {
			least := leastPeak(loads, k)
			if n, e := share.Least(loads, k); n != least || e != api.OK {
				t.Fatalf("%v: Least among %d = %d, %d, want %d", loads, k, n, e, least)
			}
			best := done[[]int](t)(share.Best(loads, k))
			if len(best) != k-1 || slices.Max(weighed(loads, best)) != least {
				t.Fatalf("%v: Best among %d = %v, want the peak %d", loads, k, best, least)
			}
			for at, cut := range best {
				if cut > 0 && leastPeak(loads[cut-1:], k-at-1) <= least {
					t.Fatalf("%v: Best among %d = %v, but its cut %d may be less", loads, k, best, at)
				}
			}
		}
	}
}

// TestLeastBounds: more nodes never make the peak greater, and it is at least the greatest load, and the mean weight.
func TestLeastBounds(t *testing.T) {
	for _, loads := range slices.Concat(smallLoads(), greatLoads()) {
		before := total(loads)
		for k := 1; k <= api.MaxShare; k++ {
			n := done[int](t)(share.Least(loads, k))
			if k == 1 && n != before || n > before || n < slices.Max(loads) || n*k < total(loads) {
				t.Fatalf("%v: Least among %d = %d, before %d", loads, k, n, before)
			}
			before = n
		}
	}
}

func TestGreedy(t *testing.T) {
	for _, c := range []struct {
		loads []int
		most  int
		cuts  []int
		e     api.Errno
	}{
		{chapter(), 8, []int{3}, api.OK}, {chapter(), 7, []int{2, 4}, api.OK}, {chapter(), 5, []int{2, 4}, api.OK}, {chapter(), 13, []int{4}, api.OK}, {chapter(), 14, nil, api.OK}, {chapter(), all, nil, api.OK}, {chapter(), 4, nil, api.ErrNone}, {chapter(), 0, nil, api.ErrNone},
		{[]int{0, 3, 0, 3, 0}, 3, []int{3}, api.OK}, {[]int{0, 3, 0, 3, 0}, 5, []int{3}, api.OK}, {[]int{0, 3, 0, 3, 0}, 6, nil, api.OK}, {[]int{3, 0, 0, 3, 0, 3}, 3, []int{3, 5}, api.OK}, {[]int{0, 0}, 0, nil, api.OK}, {[]int{0, 1}, 0, nil, api.ErrNone}, {[]int{1, 0}, 0, nil, api.ErrNone},
		{[]int{1, 9}, 8, nil, api.ErrNone}, {[]int{9, 1}, 8, nil, api.ErrNone}, {[]int{1, 9}, 9, []int{1}, api.OK}, {[]int{most, most}, most, []int{1}, api.OK}, {[]int{most, most}, 2 * most, nil, api.OK}, {[]int{most, most}, 2*most - 1, []int{1}, api.OK},
		{chapter(), -1, nil, api.ErrRange}, {chapter(), all + 1, nil, api.ErrRange}, {chapter(), math.MaxInt, nil, api.ErrRange}, {chapter(), math.MinInt, nil, api.ErrRange}, {[]int{0}, -1, nil, api.ErrRange},
		{slices.Repeat([]int{most}, 64), all, nil, api.OK}, {slices.Repeat([]int{most}, 64), all - 1, []int{63}, api.OK},
	} {
		l, e := share.Greedy(c.loads, c.most)
		if !slices.Equal(l, c.cuts) || e != c.e {
			t.Errorf("%v: Greedy with %d = %v, %d", c.loads, c.most, l, e)
		}
		count := 0
		if c.e == api.OK {
			count = len(c.cuts) + 1
		}
		if n, e := share.Nodes(c.loads, c.most); n != count || e != c.e {
			t.Errorf("%v: Nodes with %d = %d, %d", c.loads, c.most, n, e)
		}
	}
	for _, loads := range badLoads() {
		for _, m := range []int{0, all, -1} {
			if l, e := share.Greedy(loads, m); len(l) != 0 || e != api.ErrInvalid {
				t.Errorf("%v: Greedy = %v, %d", loads, l, e)
			}
			if n, e := share.Nodes(loads, m); n != 0 || e != api.ErrInvalid {
				t.Errorf("%v: Nodes = %d, %d", loads, n, e)
			}
		}
	}
}

// TestGreedyMany takes more nodes than any share has.
func TestGreedyMany(t *testing.T) {
	for _, columns := range []int{17, 40, 64} {
		l := done[[]int](t)(share.Greedy(slices.Repeat([]int{most}, columns), most))
		for i, cut := range l {
			if cut != i+1 {
				t.Fatalf("Greedy = %v", l)
			}
		}
		if n, e := share.Nodes(slices.Repeat([]int{most}, columns), most); len(l) != columns-1 || n != columns || e != api.OK {
			t.Errorf("Nodes of %d columns = %d, %d", columns, n, e)
		}
	}
}

// TestGreedyIsGreedy: each node has as many columns as it can take, and the next one at least one of those that weigh something.
func TestGreedyIsGreedy(t *testing.T) {
	for _, loads := range slices.Concat(smallLoads(), greatLoads()) {
		for _, m := range []int{slices.Max(loads), slices.Max(loads) + 1, 2 * slices.Max(loads), total(loads) - 1, total(loads)} {
			if m < slices.Max(loads) {
				continue
			}
			cuts := done[[]int](t)(share.Greedy(loads, m))
			w := weighed(loads, cuts)
			if slices.Max(w) > m || !slices.IsSorted(cuts) {
				t.Fatalf("%v: Greedy with %d = %v", loads, m, cuts)
			}
			for node, cut := range cuts {
				if w[node]+loads[cut] <= m {
					t.Fatalf("%v: Greedy with %d = %v, but node %d takes more", loads, m, cuts, node)
				}
			}
		}
	}
}

// TestFits against all shares: some share among k nodes has such a peak just if Greedy's has no more nodes.
func TestFits(t *testing.T) {
	for _, loads := range smallLoads() {
		peaks := map[int]int{}
		for k := 1; k <= 5; k++ {
			peaks[k] = leastPeak(loads, k)
		}
		for _, m := range []int{0, 1, 2, 3, 4, 5, 8, 13, 20, most - 1, most, most + 1, all, peaks[1] - 1, peaks[1], peaks[2], max(0, peaks[3]-1)} {
			if m < 0 {
				continue
			}
			n, e := share.Nodes(loads, m)
			for k := 1; k <= 5; k++ {
				want := peaks[k] <= m
				if is, e := share.Fits(loads, k, m); is != want || e != api.OK {
					t.Fatalf("%v: Fits of %d among %d = %v, %d", loads, m, k, is, e)
				}
				if want != (e == api.OK && n <= k) {
					t.Fatalf("%v: Nodes with %d = %d, %d", loads, m, n, e)
				}
			}
		}
	}
}

func TestFitsErrors(t *testing.T) {
	for _, m := range []int{-1, all + 1, math.MaxInt, math.MinInt} {
		for _, k := range []int{1, 3, 16, 0, 17} {
			if is, e := share.Fits(chapter(), k, m); is || e != api.ErrRange {
				t.Errorf("Fits of %d among %d = %v, %d", m, k, is, e)
			}
		}
		if is, e := share.Fits([]int{-1}, 1, m); is || e != api.ErrInvalid {
			t.Errorf("Fits of wrong loads = %v, %d", is, e)
		}
	}
	for k, want := range map[int]bool{1: true, 16: true} {
		if is, e := share.Fits(slices.Repeat([]int{most}, 64), k, all); is != want || e != api.OK {
			t.Errorf("Fits among %d = %v, %d", k, is, e)
		}
	}
	if is, e := share.Fits([]int{0, 0}, 1, 0); !is || e != api.OK {
		t.Errorf("Fits of nothing = %v, %d", is, e)
	}
	if is, e := share.Fits([]int{0, 1}, 16, 0); is || e != api.OK {
		t.Errorf("Fits of a column that is too heavy = %v, %d", is, e)
	}
	ones := slices.Repeat([]int{1}, 17)
	if is, e := share.Fits(ones, 16, 1); is || e != api.OK {
		t.Errorf("Fits of 17 columns = %v, %d", is, e)
	}
	if is, e := share.Fits(ones[1:], 16, 1); !is || e != api.OK {
		t.Errorf("Fits of 16 columns = %v, %d", is, e)
	}
}

func TestRebalanced(t *testing.T) {
	for _, c := range []struct {
		cuts, best []int
		changed    int
	}{
		{nil, nil, 0}, {[]int{3}, []int{3}, 0}, {[]int{1}, []int{3}, 2}, {[]int{5}, []int{3}, 2}, {[]int{0}, []int{3}, 3}, {[]int{0, 5}, []int{2, 4}, 3}, {[]int{0, 0}, []int{2, 4}, 4}, {[]int{5, 5}, []int{2, 4}, 3}, {[]int{0, 2, 4}, []int{0, 2, 4}, 0}, {[]int{2, 4, 5}, []int{0, 2, 4}, 5},
	} {
		if l, n, e := share.Rebalanced(chapter(), c.cuts); !slices.Equal(l, c.best) || n != c.changed || e != api.OK {
			t.Errorf("%v: Rebalanced = %v, %d, %d", c.cuts, l, n, e)
		}
	}
}

func TestRebalancedAsWritten(t *testing.T) {
	next := thrown(12)
	for _, loads := range slices.Concat(smallLoads(), greatLoads()) {
		for k := 1; k <= api.MaxShare; k += 1 + next(4) {
			cuts := thrownShare(len(loads), k, next)
			best := done[[]int](t)(share.Best(loads, k))
			changed := 0
			for column := range loads {
				if holder(cuts, column) != holder(best, column) {
					changed++
				}
			}
			if l, n, e := share.Rebalanced(loads, cuts); !slices.Equal(l, best) || n != changed || e != api.OK {
				t.Fatalf("%v: Rebalanced of %v = %v, %d, %d, want %v, %d", loads, cuts, l, n, e, best, changed)
			}
			if _, n, e := share.Rebalanced(loads, best); n != 0 || e != api.OK {
				t.Fatalf("%v: Rebalanced of the best share changes %d, %d", loads, n, e)
			}
		}
	}
}
