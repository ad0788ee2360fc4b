package gauge

import (
	"strconv"
	"strings"

	"slipstream/api"
)

// Format returns a line with the numbers of each gauge; the empty string for gauges that are not valid.
func Format(l []api.Gauge) string {
	if !Valid(l) {
		return ""
	}
	var text strings.Builder
	for _, g := range l {
		for at, n := range numbers(&g) {
			if at > 0 {
				text.WriteByte(' ')
			}
			text.WriteString(strconv.Itoa(*n))
		}
		text.WriteByte('\n')
	}
	return text.String()
}

// Parse reads what Format returns for valid gauges. With api.ErrSyntax it returns the number of the first line that is wrong or missing.
func Parse(s string) (l []api.Gauge, line int, e api.Errno) {
	if len(s) > api.MaxText {
		return nil, 0, api.ErrLong
	}
	// The empty text has a line, too: a wrong one.
	for s != "" || len(l) == 0 {
		text, rest, whole := strings.Cut(s, "\n")
		g, ok := readGauge(text)
		if !whole || !ok || len(l) == api.MaxGauges {
			return nil, len(l), api.ErrSyntax
		}
		l = append(l, g)
		s = rest
	}
	return l, 0, api.OK
}

// readGauge returns the gauge of a line without its line feed; false if it is not valid.
func readGauge(text string) (api.Gauge, bool) {
	var g api.Gauge
	fields := numbers(&g)
	words := strings.Split(text, " ")
	if len(words) != len(fields) {
		return api.Gauge{}, false
	}
	for at, w := range words {
		n, err := strconv.Atoi(w)
		// Written again the word has no + in front, no zeros, and no - in front of 0.
		if err != nil || strconv.Itoa(n) != w {
			return api.Gauge{}, false
		}
		*fields[at] = n
	}
	return g, isGauge(g)
}

// numbers returns the numbers of a gauge where they lie, in the order of its line.
func numbers(g *api.Gauge) [10]*int {
	return [10]*int{
		&g.From, &g.To,
		&g.Before.Lo, &g.Before.Hi, &g.In.Lo, &g.In.Hi, &g.Out.Lo, &g.Out.Hi, &g.After.Lo, &g.After.Hi,
	}
}
