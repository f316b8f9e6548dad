package books

import (
	"bytes"
	"maps"

	"millrind/api"
	"millrind/tallies"
)

// Run returns what the console prints for a script.
func Run(script []byte) []byte {
	if len(script) > api.MaxScript {
		return []byte(failure(api.ErrLimit) + "\n")
	}
	c := newConsole()
	commands := c.commands()
	var printed []byte
	rest := script
lines:
	for count := 0; len(rest) > 0; count++ {
		if count == api.MaxCommands {
			break lines
		}
		line, behind, _ := bytes.Cut(rest, []byte{'\n'})
		rest = behind
		if len(line) > 0 {
			printed = append(printed, answer(commands, string(line))...)
		}
		printed = append(printed, '\n')
	}
	return printed
}

// console is what a script has made so far.
type console struct {
	base  api.Base
	world *tallies.World // none ahead of begin
	book  *api.Book      // none ahead of the first book
}

func newConsole() *console {
	c := &console{}
	c.base.Pair.Drive = make([][]api.Move, api.Kinds*api.Kinds)
	return c
}

// command is a row of the tables: how many arguments it may have, when it may be given, what it does, and the word with which it answers.
type command struct {
	fits  func(args int) bool
	ready func() bool
	says  string
	do    func(args []int) ([]int, api.Errno)
}

func (c *console) commands() map[string]command {
	all := map[string]command{}
	for _, table := range []map[string]command{c.settings(), c.notes(), c.acts(), c.questions(), c.bookQuestions()} {
		maps.Copy(all, table)
	}
	return all
}

// answer returns what is printed for a line.
func answer(commands map[string]command, line string) string {
	x, e := Parse(line)
	if e != api.OK {
		return failure(e)
	}
	row, is := commands[x.Word]
	if !is || !row.fits(len(x.Args)) {
		return failure(api.ErrCommand)
	}
	if !row.ready() {
		return failure(api.ErrReady)
	}
	numbers, e := row.do(x.Args)
	if e != api.OK {
		return failure(e)
	}
	return text(row.says, numbers)
}

func failure(e api.Errno) string { return text("error", []int{int(e)}) }

// isOpen reports whether the base may still be set.
func (c *console) isOpen() bool { return c.world == nil }

func (c *console) hasBegun() bool { return c.world != nil }

func (c *console) hasBook() bool { return c.book != nil }

func exactly(count int) func(args int) bool {
	return func(args int) bool { return args == count }
}

func atLeast(count int) func(args int) bool {
	return func(args int) bool { return args >= count }
}
