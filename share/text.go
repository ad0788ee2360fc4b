package share

import (
	"strconv"
	"strings"

	"slipstream/api"
)

// Format returns the cuts as words; the empty string if they are a share of no grid's columns.
func Format(cuts []int) string {
	if !isShare(cuts, api.MaxSide) {
		return ""
	}
	var words []string
	for _, cut := range cuts {
		words = append(words, strconv.Itoa(cut))
	}
	return strings.Join(words, " ")
}

// Parse reads what Format returns.
func Parse(s string) ([]int, api.Errno) {
	if len(s) > api.MaxText {
		return nil, api.ErrLong
	}
	if s == "" {
		return nil, api.OK
	}
	var cuts []int
	for _, w := range strings.Split(s, " ") {
		cut, _ := strconv.Atoi(w)
		cuts = append(cuts, cut)
	}
	// Written again the text has only numbers, without signs and zeros in front, and nothing at all of cuts that are wrong.
	if Format(cuts) != s {
		return nil, api.ErrSyntax
	}
	return cuts, api.OK
}
