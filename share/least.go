package share

import (
	"cmp"
	"slices"
	"sort"

	"slipstream/api"
)

// Least returns the least peak of all shares among k nodes.
func Least(loads []int, k int) (int, api.Errno) {
	if e := checkNodes(loads, k); e != api.OK {
		return 0, e
	}
	fits := func(most int) bool {
		cuts, ok := filled(loads, most)
		return ok && len(cuts) < k
	}
	return sort.Search(weight(loads, 0, len(loads)), fits), api.OK
}

// Best returns the first share among k nodes that has the least peak.
func Best(loads []int, k int) ([]int, api.Errno) {
	least, e := Least(loads, k)
	if e != api.OK {
		return nil, e
	}
	return firstShare(loads, k, least), api.OK
}

// Rebalanced returns the best share among as many nodes, and how many columns have another node in it.
func Rebalanced(loads, cuts []int) ([]int, int, api.Errno) {
	if e := checkShare(loads, cuts); e != api.OK {
		return nil, 0, e
	}
	// A share has a number of nodes that Best takes.
	best, _ := Best(loads, len(cuts)+1)
	changed := 0
	for column := range loads {
		if nodeOf(cuts, column) != nodeOf(best, column) {
			changed++
		}
	}
	return best, changed, api.OK
}

// firstShare returns, of the shares among k nodes of which none weighs more than most, the first one as a list of cuts. There must be one.
func firstShare(loads []int, k, most int) []int {
	// By the column behind the nodes so far: the first list of the columns at which these may begin.
	lists := map[int][]int{0: nil}
	for range k {
		longer := map[int][]int{}
		for from, begins := range lists {
			list := slices.Concat(begins, []int{from})
			for end := from; end <= len(loads) && weight(loads, from, end) <= most; end++ {
				keepFirst(longer, end, list)
			}
		}
		lists = longer
	}
	// The first node begins at no cut.
	return lists[len(loads)][1:]
}

// keepFirst puts a list into a map, unless under its key there is one that is before it.
func keepFirst[K comparable, T cmp.Ordered](lists map[K][]T, key K, list []T) {
	known, ok := lists[key]
	if !ok || slices.Compare(list, known) < 0 {
		lists[key] = list
	}
}
