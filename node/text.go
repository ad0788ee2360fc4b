package node

import (
	"strconv"
	"strings"

	"slipstream/api"
)

// Format returns a line with the numbers of each note; the empty string if a number is below 0, or there are too many notes.
func Format(post []api.Note) string {
	if len(post) > api.MaxNotes {
		return ""
	}
	var text strings.Builder
	for _, n := range post {
		for at, number := range [6]int{n.Step, n.From, n.To, n.Cell, n.Dir, n.Count} {
			if number < 0 {
				return ""
			}
			if at > 0 {
				text.WriteByte(' ')
			}
			text.WriteString(strconv.Itoa(number))
		}
		text.WriteByte('\n')
	}
	return text.String()
}

// Parse reads what Format returns for notes without a number above api.MaxMass. With api.ErrSyntax it returns the number of the first line that is wrong.
func Parse(s string) (post []api.Note, line int, e api.Errno) {
	if len(s) > api.MaxText {
		return nil, 0, api.ErrLong
	}
	for s != "" {
		text, rest, whole := strings.Cut(s, "\n")
		n, ok := readNote(text)
		if !whole || !ok {
			return nil, len(post), api.ErrSyntax
		}
		post = append(post, n)
		s = rest
	}
	return post, 0, api.OK
}

// readNote returns the note of a line without its line feed.
func readNote(text string) (api.Note, bool) {
	var n api.Note
	fields := [6]*int{&n.Step, &n.From, &n.To, &n.Cell, &n.Dir, &n.Count}
	words := strings.Split(text, " ")
	if len(words) != len(fields) {
		return api.Note{}, false
	}
	for at, w := range words {
		number, err := strconv.Atoi(w)
		// Written again the word has no sign and no zeros in front.
		if err != nil || number < 0 || number > api.MaxMass || strconv.Itoa(number) != w {
			return api.Note{}, false
		}
		*fields[at] = number
	}
	return n, true
}
