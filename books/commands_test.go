package books_test

import (
	"math"
	"math/rand"
	"strings"
	"testing"

	"millrind/api"
	"millrind/books"
)

// commands are commands with their lines.
func commands() map[string]api.Command {
	return map[string]api.Command{
		"kind 0 1 2 1":                   {Word: "kind", Args: []int{0, 1, 2, 1}},
		"settle":                         {Word: "settle"},
		"z":                              {Word: "z"},
		"a -1":                           {Word: "a", Args: []int{-1}},
		"abcdefghijklmnopqrstuvwxyz":     {Word: "abcdefghijklmnopqrstuvwxyz"},
		"gap 1000000000 -1000000000":     {Word: "gap", Args: []int{1000000000, -1000000000}},
		"x 10 100 -10 7":                 {Word: "x", Args: []int{10, 100, -10, 7}},
		"all" + strings.Repeat(" 0", 64): {Word: "all", Args: make([]int, 64)},
		strings.Repeat("long", 1000):     {Word: strings.Repeat("long", 1000)},
	}
}

// P10.1, B16, B17, the chapter's example 2: Parse and Print undo each other.
func TestCommands(t *testing.T) {
	for line, c := range commands() {
		want(t, "Parse of "+line, must[api.Command](t, "Parse")(books.Parse(line)), c)
		want(t, "Print of "+line, must[string](t, "Print")(books.Print(c)), line)
	}
}

// P10.1, B16: lines that are no commands.
func TestParseErrors(t *testing.T) {
	for _, line := range []string{
		"", " ", "  ", "tol 01", "tol  1", "tol 1 ", " tol 1", "tol ", "tol 1  2", "tol\t1", "tol 1\n", "tol 1\r", "tol\n", "\n",
		"tol 00", "tol -0", "tol -01", "tol --1", "tol +1", "tol -", "tol 1-", "tol 1.0", "tol 1e3", "tol 0x1", "tol 1_0", "tol x", "tol one",
		"tol 1000000001", "tol -1000000001", "tol 9223372036854775807", "tol 9223372036854775808", "tol -99999999999999999999", "tol 18446744073709551617",
		"Tol 1", "tOl 1", "tol1", "tol1 1", "to-l 1", "to_l", "1", "-1 1", "1 tol", "täl", "tol é", "tol \u0661", "\x00", "tol\x00 1", "tol 1\x00", "{", "`",
		"tol" + strings.Repeat(" 1", 65), "tol" + strings.Repeat(" 1", 64) + " ", strings.Repeat(" ", 70),
	} {
		wantError[api.Command](t, "Parse of "+line, api.ErrCommand)(books.Parse(line))
	}
}

// P10.1, B17: commands that no line has.
func TestPrintErrors(t *testing.T) {
	for what, c := range map[string]api.Command{
		"nothing":           {},
		"no word":           {Args: []int{1}},
		"two words":         {Word: "a b"},
		"a word and more":   {Word: "tol 1"},
		"a capital":         {Word: "Tol"},
		"a digit":           {Word: "tol1"},
		"a line feed":       {Word: "tol\n"},
		"letters beyond":    {Word: "täl"},
		"a byte behind z":   {Word: "{"},
		"a byte ahead of a": {Word: "`"},
		"too great":         {Word: "tol", Args: []int{1000000001}},
		"too small":         {Word: "tol", Args: []int{0, -1000000001}},
		"beyond all":        {Word: "tol", Args: []int{math.MaxInt}},
		"below all":         {Word: "tol", Args: []int{math.MinInt}},
		"too many":          {Word: "tol", Args: make([]int, 65)},
	} {
		wantError[string](t, what, api.ErrCommand)(books.Print(c))
	}
}

// P10.1, B16, B17: whatever Parse accepts is what Print makes of it.
func TestOtherLines(t *testing.T) {
	rng := rand.New(rand.NewSource(16))
	parsed := 0
	for range 20000 {
		line := []byte("gap 120 -45 7")
		for range fromTo(rng, 1, 3) {
			line[rng.Intn(len(line))] = "abz 019-+A"[rng.Intn(10)]
		}
		c, e := books.Parse(string(line))
		if e != api.OK {
			wantError[api.Command](t, "Parse", api.ErrCommand)(c, e)
			continue
		}
		parsed++
		want(t, "Print", must[string](t, "Print")(books.Print(c)), string(line))
	}
	if parsed < 2000 {
		t.Errorf("only %d lines are commands", parsed)
	}
}

// R7: a command that is printed is not changed.
func TestCommandsAreKept(t *testing.T) {
	c := api.Command{Word: "tol", Args: []int{1, 2, 3}[:2]}
	books.Print(c)
	want(t, "the command", c.Args[:3], []int{1, 2, 3})
}
