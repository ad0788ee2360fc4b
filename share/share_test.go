package share_test

import (
	"math"
	"slices"
	"testing"

	"slipstream/api"
	"slipstream/share"
)

func TestValid(t *testing.T) {
	for _, loads := range slices.Concat(smallLoads(), greatLoads(), [][]int{{0}, {most}, {0, most}, {most, 0}, make([]int, 64)}) {
		if !share.Valid(loads) {
			t.Errorf("%v are not valid", loads)
		}
	}
	for _, loads := range badLoads() {
		if share.Valid(loads) {
			t.Errorf("%v are valid", loads)
		}
	}
}

func TestWeights(t *testing.T) {
	for _, c := range []struct {
		cuts, weights []int
		peak          int
		spare         []int
	}{
		{nil, []int{14}, 14, []int{0}}, {[]int{}, []int{14}, 14, []int{0}}, {[]int{3}, []int{8, 6}, 8, []int{0, 2}}, {[]int{2}, []int{4, 10}, 10, []int{6, 0}},
		{[]int{0}, []int{0, 14}, 14, []int{14, 0}}, {[]int{5}, []int{14, 0}, 14, []int{0, 14}}, {[]int{2, 2}, []int{4, 0, 10}, 10, []int{6, 10, 0}},
		{[]int{1, 2, 3, 4}, []int{3, 1, 4, 1, 5}, 5, []int{2, 4, 1, 4, 0}}, {[]int{0, 0, 5, 5}, []int{0, 0, 14, 0, 0}, 14, []int{14, 14, 0, 14, 14}},
		{make([]int, 15), append(make([]int, 15), 14), 14, append(slices.Repeat([]int{14}, 15), 0)},
	} {
		w, e := share.Weights(chapter(), c.cuts)
		p, f := share.Peak(chapter(), c.cuts)
		s, g := share.Spare(chapter(), c.cuts)
		if !slices.Equal(w, c.weights) || p != c.peak || !slices.Equal(s, c.spare) || e != api.OK || f != api.OK || g != api.OK {
			t.Errorf("%v: %v, %d, %v", c.cuts, w, p, s)
		}
	}
}

// TestWeightsAddUp to the loads, also those of full columns.
func TestWeightsAddUp(t *testing.T) {
	next := thrown(4)
	for _, loads := range slices.Concat(smallLoads(), greatLoads()) {
		for k := 1; k <= api.MaxShare; k++ {
			cuts := thrownShare(len(loads), k, next)
			w := done[[]int](t)(share.Weights(loads, cuts))
			if !slices.Equal(w, weighed(loads, cuts)) || total(w) != total(loads) {
				t.Fatalf("%v: Weights of %v = %v", loads, cuts, w)
			}
			peak := done[int](t)(share.Peak(loads, cuts))
			if peak != slices.Max(w) {
				t.Fatalf("%v: Peak of %v = %d", loads, cuts, peak)
			}
			spare := done[[]int](t)(share.Spare(loads, cuts))
			if len(spare) != k {
				t.Fatalf("%v: Spare of %v = %v", loads, cuts, spare)
			}
			for node, n := range spare {
				if n != peak-w[node] {
					t.Fatalf("%v: Spare of %v = %v", loads, cuts, spare)
				}
			}
		}
	}
}

func TestMoved(t *testing.T) {
	for _, c := range []struct {
		cuts     []int
		node, by int
		want     []int
		e        api.Errno
	}{
		{[]int{1, 3}, 0, 0, []int{1, 3}, api.OK}, {[]int{1, 3}, 0, 1, []int{2, 3}, api.OK}, {[]int{1, 3}, 0, 2, []int{3, 3}, api.OK}, {[]int{1, 3}, 0, 3, nil, api.ErrRange},
		{[]int{1, 3}, 0, -1, []int{0, 3}, api.OK}, {[]int{1, 3}, 0, -2, nil, api.ErrRange}, {[]int{1, 3}, 1, 2, []int{1, 5}, api.OK}, {[]int{1, 3}, 1, 3, nil, api.ErrRange},
		{[]int{1, 3}, 1, -2, []int{1, 1}, api.OK}, {[]int{1, 3}, 1, -3, nil, api.ErrRange}, {[]int{1, 3}, 2, 0, nil, api.ErrRange}, {[]int{1, 3}, 2, -1, nil, api.ErrRange}, {[]int{1, 3}, 3, 0, nil, api.ErrRange}, {[]int{1, 3}, -1, 0, nil, api.ErrRange},
		{[]int{1, 3}, math.MaxInt, 0, nil, api.ErrRange}, {[]int{1, 3}, math.MinInt, 0, nil, api.ErrRange}, {[]int{1, 3}, 0, math.MaxInt, nil, api.ErrRange}, {[]int{1, 3}, 0, math.MinInt, nil, api.ErrRange}, {[]int{1, 3}, 1, math.MaxInt, nil, api.ErrRange}, {[]int{1, 3}, 1, math.MinInt, nil, api.ErrRange},
		{nil, 0, 0, nil, api.ErrRange}, {nil, -1, 0, nil, api.ErrRange}, {[]int{2}, 0, 3, []int{5}, api.OK}, {[]int{2}, 0, -2, []int{0}, api.OK}, {[]int{2}, 0, 4, nil, api.ErrRange}, {[]int{2}, 0, -3, nil, api.ErrRange},
		{[]int{1, 2, 4}, 1, 2, []int{1, 4, 4}, api.OK}, {[]int{1, 2, 4}, 1, -1, []int{1, 1, 4}, api.OK}, {[]int{1, 2, 4}, 1, 3, nil, api.ErrRange}, {[]int{1, 2, 4}, 1, -2, nil, api.ErrRange},
	} {
		if l, e := share.Moved(chapter(), c.cuts, c.node, c.by); !slices.Equal(l, c.want) || e != c.e {
			t.Errorf("%v: node %d, %d more: %v, %d", c.cuts, c.node, c.by, l, e)
		}
	}
}

// TestMovedAsWritten moves every cut of every share by all numbers that are near: what comes of it must be a share.
func TestMovedAsWritten(t *testing.T) {
	loads := []int{2, 0, 1, 3}
	for k := 1; k <= 5; k++ {
		for _, cuts := range sharesOf(len(loads), k) {
			for node := -1; node <= k; node++ {
				for by := -6; by <= 6; by++ {
					var want []int
					wantError := api.ErrRange
					if node >= 0 && node < k-1 {
						moved := slices.Clone(cuts)
						moved[node] += by
						if slices.IsSorted(moved) && moved[0] >= 0 && moved[k-2] <= len(loads) {
							want, wantError = moved, api.OK
						}
					}
					if l, e := share.Moved(loads, cuts, node, by); !slices.Equal(l, want) || e != wantError {
						t.Fatalf("%v: node %d, %d more: %v, %d", cuts, node, by, l, e)
					}
				}
			}
		}
	}
}

func TestEven(t *testing.T) {
	for k, want := range map[int][]int{1: nil, 2: {3}, 3: {2, 4}, 4: {2, 3, 4}, 5: {1, 2, 3, 4}, 6: {1, 2, 3, 4, 5}, 7: {1, 2, 3, 4, 5, 5}} {
		if l, e := share.Even(chapter(), k); e != api.OK || !slices.Equal(l, want) {
			t.Errorf("Even among %d = %v, %d", k, l, e)
		}
	}
	for columns := 1; columns <= api.MaxSide; columns++ {
		for k := 1; k <= api.MaxShare; k++ {
			cuts := done[[]int](t)(share.Even(make([]int, columns), k))
			// Columns that weigh 1 each tell how many a node has.
			w := weighed(slices.Repeat([]int{1}, columns), cuts)
			for node, n := range w {
				want := columns / k
				if node < columns%k {
					want++
				}
				if n != want || len(w) != k {
					t.Fatalf("%d columns among %d: %v", columns, k, w)
				}
			}
		}
	}
}

// TestErrors gives all calls with loads wrong loads, wrong shares, and wrong numbers of nodes; of two errors loads come first.
func TestErrors(t *testing.T) {
	for _, loads := range badLoads() {
		for _, cuts := range [][]int{nil, {0}, {-1}, make([]int, 16)} {
			checkCuts(t, loads, cuts, api.ErrInvalid)
		}
		for _, k := range []int{1, 2, 16, 0, 17} {
			checkCount(t, loads, k, api.ErrInvalid)
		}
		if l, e := share.Greedy(loads, -1); len(l) != 0 || e != api.ErrInvalid {
			t.Errorf("%v: Greedy = %v, %d", loads, l, e)
		}
	}
	for _, cuts := range badCuts() {
		checkCuts(t, chapter(), cuts, api.ErrRange)
	}
	for _, k := range badNodes() {
		checkCount(t, chapter(), k, api.ErrRange)
	}
}

// checkCuts calls everything that takes loads and a share.
func checkCuts(t *testing.T, loads, cuts []int, want api.Errno) {
	t.Helper()
	if l, e := share.Weights(loads, cuts); len(l) != 0 || e != want {
		t.Errorf("Weights of %v, %v = %v, %d", loads, cuts, l, e)
	}
	if n, e := share.Peak(loads, cuts); n != 0 || e != want {
		t.Errorf("Peak of %v, %v = %d, %d", loads, cuts, n, e)
	}
	if l, e := share.Spare(loads, cuts); len(l) != 0 || e != want {
		t.Errorf("Spare of %v, %v = %v, %d", loads, cuts, l, e)
	}
	for _, node := range []int{0, -1} {
		if l, e := share.Moved(loads, cuts, node, 0); len(l) != 0 || e != want {
			t.Errorf("Moved of %v, %v = %v, %d", loads, cuts, l, e)
		}
	}
	if l, n, e := share.Rebalanced(loads, cuts); len(l) != 0 || n != 0 || e != want {
		t.Errorf("Rebalanced of %v, %v = %v, %d, %d", loads, cuts, l, n, e)
	}
}

// checkCount calls everything that takes loads and a number of nodes.
func checkCount(t *testing.T, loads []int, k int, want api.Errno) {
	t.Helper()
	if n, e := share.Least(loads, k); n != 0 || e != want {
		t.Errorf("Least of %v among %d = %d, %d", loads, k, n, e)
	}
	if l, e := share.Best(loads, k); len(l) != 0 || e != want {
		t.Errorf("Best of %v among %d = %v, %d", loads, k, l, e)
	}
	if l, e := share.Even(loads, k); len(l) != 0 || e != want {
		t.Errorf("Even of %v among %d = %v, %d", loads, k, l, e)
	}
	if p, e := share.Proof(loads, k); len(p) != 0 || e != want {
		t.Errorf("Proof of %v among %d = %v, %d", loads, k, p, e)
	}
	for _, m := range []int{0, 100, -1} {
		if is, e := share.Fits(loads, k, m); is || e != want {
			t.Errorf("Fits of %v among %d = %v, %d", loads, k, is, e)
		}
	}
	for _, p := range [][][2]int{{{0, 0}}, {{0, 4}}, {{0, 2}, {2, 4}}, nil} {
		if share.Proves(loads, k, 0, p) {
			t.Errorf("Proves of %v among %d, %v", loads, k, p)
		}
	}
}
