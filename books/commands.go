package books

import (
	"strconv"
	"strings"

	"millrind/api"
)

// maxNumber is the greatest number of a command, and its negative the least one.
const maxNumber = 1000000000

// Parse returns the command of a line.
func Parse(line string) (api.Command, api.Errno) {
	parts := strings.Split(line, " ")
	c := api.Command{Word: parts[0]}
	for _, part := range parts[1:] {
		n, e := strconv.Atoi(part)
		if e != nil || strconv.Itoa(n) != part {
			return api.Command{}, api.ErrCommand
		}
		c.Args = append(c.Args, n)
	}
	if !isCommand(c) {
		return api.Command{}, api.ErrCommand
	}
	return c, api.OK
}

// Print returns a command as a line.
func Print(c api.Command) (string, api.Errno) {
	if !isCommand(c) {
		return "", api.ErrCommand
	}
	return text(c.Word, c.Args), api.OK
}

// isCommand reports whether there is a line for a command.
func isCommand(c api.Command) bool {
	if len(c.Word) == 0 || len(c.Args) > api.MaxArgs {
		return false
	}
	for _, letter := range []byte(c.Word) {
		if letter < 'a' || letter > 'z' {
			return false
		}
	}
	for _, n := range c.Args {
		if n < -maxNumber || n > maxNumber {
			return false
		}
	}
	return true
}

// text returns a word and numbers as a line.
func text(word string, numbers []int) string {
	b := []byte(word)
	for _, n := range numbers {
		b = strconv.AppendInt(append(b, ' '), int64(n), 10)
	}
	return string(b)
}
