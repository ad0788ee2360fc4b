package lab

import (
	"strconv"
	"strings"
)

// mostNumber is the greatest number that can be read.
const mostNumber = 1_000_000_000_000_000

func (c *putCommand) text() string { return "put " + written(c.p.X, c.p.Y, c.dir, c.n) }

func (c *takeCommand) text() string { return "take " + written(c.p.X, c.p.Y, c.dir, c.n) }

func (c *discCommand) text() string { return "disc " + written(c.p.X, c.p.Y, c.q, c.body) }

func (c *smoothCommand) text() string { return "smooth " + written(c.p.X, c.p.Y, c.q, c.body) }

func (c *boxCommand) text() string {
	return "box " + written(c.p.X, c.p.Y, c.q.X, c.q.Y, c.kind, c.body)
}

func (c *clearCommand) text() string { return "clear " + written(c.body) }

func (c *stepCommand) text() string { return "step " + written(c.n) }

func (c *backCommand) text() string { return "back " + written(c.n) }

func (c *markCommand) text() string { return "mark " + c.name }

func (c *goCommand) text() string { return "go " + c.name }

// readCommand returns the command of a text; it is false if the text is none.
func readCommand(text string) (command, bool) {
	words := strings.Split(text, " ")
	word, rest := words[0], words[1:]
	switch c := blank(word).(type) {
	case *putCommand:
		return c, readNumbers(rest, &c.p.X, &c.p.Y, &c.dir, &c.n)
	case *takeCommand:
		return c, readNumbers(rest, &c.p.X, &c.p.Y, &c.dir, &c.n)
	case *discCommand:
		return c, readNumbers(rest, &c.p.X, &c.p.Y, &c.q, &c.body)
	case *smoothCommand:
		return c, readNumbers(rest, &c.p.X, &c.p.Y, &c.q, &c.body)
	case *boxCommand:
		return c, readNumbers(rest, &c.p.X, &c.p.Y, &c.q.X, &c.q.Y, &c.kind, &c.body)
	case *clearCommand:
		return c, readNumbers(rest, &c.body)
	case *stepCommand:
		return c, readNumbers(rest, &c.n)
	case *backCommand:
		return c, readNumbers(rest, &c.n)
	case *markCommand:
		return c, readName(rest, &c.name)
	case *goCommand:
		return c, readName(rest, &c.name)
	}
	return nil, false
}

// blank returns the command that begins with a word, without what stands behind it; nil if there is none.
func blank(word string) command {
	switch word {
	case "put":
		return &putCommand{}
	case "take":
		return &takeCommand{}
	case "disc":
		return &discCommand{}
	case "smooth":
		return &smoothCommand{}
	case "box":
		return &boxCommand{}
	case "clear":
		return &clearCommand{}
	case "step":
		return &stepCommand{}
	case "back":
		return &backCommand{}
	case "mark":
		return &markCommand{}
	case "go":
		return &goCommand{}
	}
	return nil
}

// readNumbers reads just as many words as there are places for numbers.
func readNumbers(words []string, to ...*int) bool {
	if len(words) != len(to) {
		return false
	}
	for i, word := range words {
		n, err := strconv.Atoi(word)
		// Written again a number has no zeros in front, and no sign that it does not need.
		if err != nil || n < -mostNumber || n > mostNumber || written(n) != word {
			return false
		}
		*to[i] = n
	}
	return true
}

// readName reads a single word that is not empty, whether it is a name or not.
func readName(words []string, to *string) bool {
	if len(words) != 1 || words[0] == "" {
		return false
	}
	*to = words[0]
	return true
}

// written returns numbers as words.
func written(numbers ...int) string {
	var words []string
	for _, n := range numbers {
		words = append(words, strconv.Itoa(n))
	}
	return strings.Join(words, " ")
}
