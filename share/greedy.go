package share

import "slipstream/api"

// Greedy returns the cuts of the share that gives each node, from the left, as many columns as weigh at most `most` together.
func Greedy(loads []int, most int) ([]int, api.Errno) {
	if !Valid(loads) {
		return nil, api.ErrInvalid
	}
	if most < 0 || most > mostWeight {
		return nil, api.ErrRange
	}
	cuts, ok := filled(loads, most)
	if !ok {
		return nil, api.ErrNone
	}
	return cuts, api.OK
}

// Nodes returns how many nodes Greedy's share has.
func Nodes(loads []int, most int) (int, api.Errno) {
	cuts, e := Greedy(loads, most)
	if e != api.OK {
		return 0, e
	}
	return len(cuts) + 1, api.OK
}

// Fits reports whether a share among k nodes has a peak of at most `most`.
func Fits(loads []int, k, most int) (bool, api.Errno) {
	if e := checkNodes(loads, k); e != api.OK {
		return false, e
	}
	n, e := Nodes(loads, most)
	if e == api.ErrRange {
		return false, e
	}
	return e == api.OK && n <= k, api.OK
}

// filled returns the first column of each node but the first one, where nodes from the left take as much as they can; false if a column alone weighs too much.
func filled(loads []int, most int) ([]int, bool) {
	var cuts []int
	room := most
	for column, load := range loads {
		if load > most {
			return nil, false
		}
		if load > room {
			cuts = append(cuts, column)
			room = most
		}
		room -= load
	}
	return cuts, true
}
