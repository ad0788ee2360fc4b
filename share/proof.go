package share

import (
	"slices"

	"slipstream/api"
)

// Proof returns the pairs of columns that show that no share among k nodes has a peak below the least one.
func Proof(loads []int, k int) ([][2]int, api.Errno) {
	least, e := Least(loads, k)
	if e != api.OK {
		return nil, e
	}
	if least == 0 {
		return nil, api.ErrNone
	}
	if column := slices.Index(loads, least); column >= 0 {
		return [][2]int{{column, column}}, api.OK
	}
	// With the column of the next node each node would weigh more than the bound, and k nodes do not take all columns.
	cuts, _ := filled(loads, least-1)
	var pairs [][2]int
	from := 0
	for _, cut := range cuts[:k] {
		pairs = append(pairs, [2]int{from, cut})
		from = cut
	}
	return pairs, api.OK
}

// Proves reports whether pairs of columns show that no share among k nodes has a peak of b or less.
func Proves(loads []int, k, b int, p [][2]int) bool {
	if checkNodes(loads, k) != api.OK || b < 0 {
		return false
	}
	if len(p) == 1 && p[0][0] == p[0][1] {
		return isHeavy(loads, p[0], b)
	}
	from := 0
	for _, pair := range p {
		if pair[0] < from || pair[0] == pair[1] || !isHeavy(loads, pair, b) {
			return false
		}
		from = pair[1]
	}
	return len(p) == k
}

// isHeavy reports whether a pair is one of columns that weigh more than b together, both ends included.
func isHeavy(loads []int, pair [2]int, b int) bool {
	if pair[0] < 0 || pair[0] > pair[1] || pair[1] >= len(loads) {
		return false
	}
	return weight(loads, pair[0], pair[1]+1) > b
}
