package lab

import (
	"bytes"
	"iter"
	"slices"
	"strconv"
	"strings"

	"slipstream/api"
)

const (
	hashStart  uint64 = 14695981039346656037
	hashFactor uint64 = 1099511628211
)

// Lines returns the lines of the book.
func (l *Lab) Lines() []api.Entry {
	return slices.Clone(l.machine().lines)
}

// Bytes returns the book as Read reads it.
func (l *Lab) Bytes() []byte {
	var b []byte
	for _, x := range l.machine().lines {
		b = append(b, line(x)...)
	}
	return b
}

// Read returns the lab that a book makes. What stands behind its last line feed is dropped.
func Read(x Setup, b []byte) (*Lab, api.Errno) {
	l, e := New(x)
	if e != api.OK {
		return nil, e
	}
	var lines []api.Entry
	for line := range fitting(b) {
		if len(lines) == api.MaxLines {
			return nil, api.ErrLimit
		}
		lines = append(lines, line)
	}
	if len(lines) < bytes.Count(b, []byte("\n")) {
		return nil, api.ErrChain
	}
	for _, line := range lines {
		if !l.redo(line) {
			return nil, api.ErrState
		}
	}
	return l, api.OK
}

// redo does the command of a line again, and reports whether the book has just this line then.
func (l *Lab) redo(x api.Entry) bool {
	c, ok := readCommand(x.Text)
	return ok && l.do(c) == api.OK && l.inner.lines[x.Number] == x
}

// fitting yields the lines of a book's bytes. It stops at the first that does not fit, and at what is no whole line.
func fitting(b []byte) iter.Seq[api.Entry] {
	return func(yield func(api.Entry) bool) {
		rest := string(b)
		for before, number := uint64(0), 0; ; number++ {
			text, behind, whole := strings.Cut(rest, "\n")
			if !whole {
				return
			}
			x, ok := readLine(before, number, text)
			if !ok || !yield(x) {
				return
			}
			before, rest = x.Sum, behind
		}
	}
}

// readLine returns the line with a number behind a line with the sum before, if a text is one.
func readLine(before uint64, number int, text string) (api.Entry, bool) {
	words := strings.SplitN(text, " ", 4)
	if len(words) < 4 || words[3] == "" {
		return api.Entry{}, false
	}
	step, err := strconv.Atoi(words[1])
	if err != nil || step < 0 || step > api.MaxStep {
		return api.Entry{}, false
	}
	x := entry(before, number, step, words[3])
	// Written again it has this number and sum, and no zeros in front.
	return x, line(x) == text+"\n"
}

// entryBehind returns the line that stands behind others.
func entryBehind(lines []api.Entry, step int, text string) api.Entry {
	var before uint64
	if len(lines) > 0 {
		before = lines[len(lines)-1].Sum
	}
	return entry(before, len(lines), step, text)
}

// entry returns the line with a number that stands behind a line with the sum before.
func entry(before uint64, number, step int, text string) api.Entry {
	sum := hash(strconv.FormatUint(before, 10) + " " + written(number, step) + " " + text)
	return api.Entry{Number: number, Step: step, Text: text, Sum: sum}
}

// line returns a line as it stands in the bytes of a book.
func line(x api.Entry) string {
	return written(x.Number, x.Step) + " " + strconv.FormatUint(x.Sum, 10) + " " + x.Text + "\n"
}

func hash(s string) uint64 {
	h := hashStart
	for _, b := range []byte(s) {
		h = (h ^ uint64(b)) * hashFactor
	}
	return h
}
