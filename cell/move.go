package cell

import "slipstream/api"

// Turned returns the cell turned by quarters from east to north.
func Turned(c api.Cell, quarters int) (api.Cell, api.Errno) {
	if !Valid(c) {
		return api.Cell{}, api.ErrInvalid
	}
	// The greatest number of quarters and a direction would overflow.
	quarters = modulo(quarters, len(c))
	var turned api.Cell
	for dir, n := range c {
		turned[(dir+quarters)%len(c)] = n
	}
	return turned, api.OK
}

// Mirrored returns the cell with east and west exchanged.
func Mirrored(c api.Cell) (api.Cell, api.Errno) {
	if !Valid(c) {
		return api.Cell{}, api.ErrInvalid
	}
	c[api.East], c[api.West] = c[api.West], c[api.East]
	return c, api.OK
}

// Added returns the sum of two cells.
func Added(a, b api.Cell) (api.Cell, api.Errno) {
	if !Valid(a) || !Valid(b) {
		return api.Cell{}, api.ErrInvalid
	}
	for dir, n := range b {
		a[dir] += n
	}
	if !Valid(a) {
		return api.Cell{}, api.ErrLimit
	}
	return a, api.OK
}

// Split divides a cell into four; the first parts have what does not divide.
func Split(c api.Cell) ([4]api.Cell, api.Errno) {
	var parts [4]api.Cell
	if !Valid(c) {
		return parts, api.ErrInvalid
	}
	for i := range parts {
		for dir, n := range c {
			parts[i][dir] = n / len(parts)
			if i < n%len(parts) {
				parts[i][dir]++
			}
		}
	}
	return parts, api.OK
}
