package field

import "slipstream/api"

// Circulation returns the circulation of a block's loop.
func Circulation(g api.Grid, a, b api.Point) (int, api.Errno) {
	k, e := newBlock(g, a, b)
	if e != api.OK {
		return 0, e
	}
	return k.circulation(), api.OK
}

// Vortex returns the lower left corner of the first square block of a side whose circulation has the greatest absolute value, and its circulation.
func Vortex(g api.Grid, side int) (api.Point, int, api.Errno) {
	if e := checkSides(g, side, side); e != api.OK {
		return api.Point{}, 0, e
	}
	best := greatest(blocks(g, side, side), func(k block) int { return magnitude(k.circulation()) })
	return best.a, best.circulation(), api.OK
}

// circulation adds up the momentum along a block's sides, counterclockwise.
func (k block) circulation() int {
	lowerRight := api.Point{X: k.b.X, Y: k.a.Y}
	upperLeft := api.Point{X: k.a.X, Y: k.b.Y}
	lowest, last := block{k.Grid, k.a, lowerRight}, block{k.Grid, lowerRight, k.b}
	highest, first := block{k.Grid, upperLeft, k.b}, block{k.Grid, k.a, upperLeft}
	return lowest.sum(eastOf) + last.sum(northOf) - highest.sum(eastOf) - first.sum(northOf)
}

// magnitude returns the absolute value of n.
func magnitude(n int) int {
	return max(n, -n)
}
