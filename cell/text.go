package cell

import (
	"strconv"
	"strings"

	"slipstream/api"
)

const (
	noneWord   = "none"
	turnWord   = "turn"
	shiftStart = "shift:"
)

// Format returns the rules as words; the empty string if they are not valid.
func Format(l []api.Rule) string {
	if !ValidRules(l) {
		return ""
	}
	var words []string
	for r := range run(l, 0, len(l)) {
		words = append(words, word(r))
	}
	return strings.Join(words, " ")
}

// Parse reads what Format returns for valid rules.
func Parse(s string) ([]api.Rule, api.Errno) {
	if len(s) > api.MaxText {
		return nil, api.ErrLong
	}
	var l []api.Rule
	for _, w := range strings.Split(s, " ") {
		r, ok := rule(w)
		if !ok {
			return nil, api.ErrSyntax
		}
		l = append(l, r)
	}
	if !ValidRules(l) {
		return nil, api.ErrSyntax
	}
	return l, api.OK
}

func word(r api.Rule) string {
	switch r.Kind {
	case api.RNone:
		return noneWord
	case api.RTurn:
		return turnWord
	}
	return shiftStart + strconv.Itoa(r.By)
}

// rule returns the rule of a word. A number that is not written as Format does it is found by writing it again.
func rule(w string) (api.Rule, bool) {
	switch w {
	case noneWord:
		return api.Rule{Kind: api.RNone}, true
	case turnWord:
		return api.Rule{Kind: api.RTurn}, true
	}
	by, err := strconv.Atoi(strings.TrimPrefix(w, shiftStart))
	r := api.Rule{Kind: api.RShift, By: by}
	if err != nil || word(r) != w {
		return api.Rule{}, false
	}
	return r, true
}
