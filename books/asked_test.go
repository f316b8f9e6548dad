package books_test

import (
	"strings"
	"testing"

	"millrind/books"
)

// P10.1, B18: questions about a register, with their errors.
func TestAsked(t *testing.T) {
	wantRun(t, "questions", begun, `
		heights 1 0 > heights 10 12 10 10
		heights 1 2 > error 1
		heights 1 -1 > error 1
		heights 2 0 > error 3
		heights 0 2 > error 3
		clash 1 0 > error 3
		clash 1 2 > error 1
		clash 2 2 > error 3
		hard 1 0 0 > error 1
		hard 1 2 0 > error 1
		hard 2 0 0 > error 3
		lines 1 > lines 1 -1 1 -1
		lines 2 > error 3
		conflicts 1 > conflicts
		conflicts 9 > error 3
		book 2 > error 3
		check > error 104
		heap 1 0 1 3 > ok 1
		hard 1 0 0 > hard 1 2 3
		hard 1 1 0 > hard 1 2 3
		hard 1 0 1 > error 1
		hard 1 0 -1 > error 1
		pass 1 0 1 1 1 > ok 2
		read 1 1 0 1 -1 5 8 > ok 3
		read 1 1 1 1 -1 4 5 > ok 4
		hard 1 0 0 > hard 1 2
		hard 1 1 0 > hard 3
		lines 1 > lines 1 -1 1 -1
		book 1 > book 0 2 1 1
		read 1 2 0 0 -1 0 1 > ok 5
		read 1 2 0 0 -1 7 9 > ok 6
		clash 1 0 > clash 1
		clash 1 1 > error 3
		heights 1 0 > error 41
		heights 1 1 > heights 4 6 4 4
		hard 1 0 0 > error 41
		hard 1 1 0 > hard 3
		lines 1 > error 41
		book 1 > book 41 0 1 0
		check > faults
	`)
	wantRun(t, "vague and never", setting, `
		aim 0 1 9 9 > ok
		aim 1 0 5 6 > ok
		bill 2 2 2 > ok
		begin 1 > ok
		lines 1 > lines 3 1 3 0
		read 1 0 1 0 -1 11 12 > ok 1
		lines 1 > lines 3 1 1 -1
		book 1 > book 0 1 1 1
		check > faults
		plan 0 0 > error 3
		plan 1 0 > plan 3
		behind 0 > behind 10 12 10 10
		behind 1 > behind 5 6 4 4
		done 1 3 > done 2
	`)
	wantRun(t, "never", setting, `
		bill 2 2 2 > ok
		aim 1 1 10 10 > ok
		begin 1 > ok
		lines 1 > lines 1 -1 2 -1
		book 1 > book 0 1 1 1
		check > faults
		plan 1 0 > error 3
		plan 0 0 > plan 2
		behind 0 > behind 6 8 6 6
		behind 1 > behind 10 12 10 10
	`)
}

// P10.1, B18: of a story that is long, wide or large the questions return the errors of what they ask.
func TestAskedTooMuch(t *testing.T) {
	readings := strings.Repeat("read 1 0 0 0 -1 10 11\n", 13)
	wantNums := func(script string) string {
		lines := strings.Split(string(books.Run([]byte(script))), "\n")
		return strings.Join(lines[len(lines)-6:], " ")
	}
	want(t, "13 readings", wantNums(begun+readings+"clash 1 0\nclash 1 1\nheights 1 0\nhard 1 0 0\nbook 1\n"), "error 2 error 3 heights 10 11 10 10 error 1 book 0 1 1 2 ")
	want(t, "201 readings", wantNums(begun+strings.Repeat("read 1 0 1 0 -1 10 11\n", 201)+"clash 1 1\nheights 1 0\nheights 1 1\nhard 1 1 0\nbook 1\n"), "error 2 heights 10 12 10 10 error 2 error 2 error 2 ")
	want(t, "a wide story", wantNums(begun+"heap 1 0 1 255\nheap 1 0 1 2\n"+"clash 1 1\nheights 1 0\nlines 1\nhard 1 0 0\nbook 1\n"), "error 2 error 2 error 2 error 2 error 2 ")
	large := strings.Replace(setting, "face 1 1 2", "face 1 1 96", 1) + "compass" + strings.Repeat(" 1", 64) + "\n"
	want(t, "a compass of 96 sectors does not fit a line", wantNums(large+"begin 1\nbegin 1\nbegin 1\nbegin 1\nbegin 1\n"), strings.Repeat("error 100 ", 5))
	large = strings.Replace(setting, "face 1 1 2", "face 1 1 32", 1) + "compass" + strings.Repeat(" 1", 64) + "\nbegin 1\n"
	want(t, "a large side", wantNums(large + "heap 1 0 1 129\nclash 1 0\nheights 1 0\nlines 1\nhard 1 0 0\nbook 1\n")[:32], "error 3 error 2 error 2 hard 1 2")
	rich := setting + strings.Repeat("pocket 1 1 255\n", 3) + "begin 1\n"
	want(t, "a rich runner", wantNums(rich+"check\nlines 1\nbook 1\ncheck\nlead\n"), "error 104 lines 1 -1 1 -1 error 2 error 104 error 104 ")
}

// P10.1, B18, DOC's example 10: the console's book of the example 4.
func TestExampleConsole(t *testing.T) {
	wantRun(t, "the example", begun, `
		read 1 0 0 0 -1 11 20 > ok 1
		heights 1 0 > heights 11 12 10 10
		book 1 > book 0 1 1 2
		plan 0 0 > plan 2 0
		check > faults
	`)
}

// P10.1, B18: questions about the console's book, with their errors; the book stays as it is until there is another one.
func TestBookQuestions(t *testing.T) {
	wantRun(t, "no book", begun, `
		check > error 104
		plan 0 0 > error 104
		plan 7 7 > error 104
		behind 7 > error 104
		lead > error 104
		cuts > error 104
		done 7 -1 > error 104
		book 7 > error 3
		done 1 1 > error 104
	`)
	wantRun(t, "a book", begun, `
		read 1 0 0 0 -1 11 20 > ok 1
		book 1 > book 0 1 1 2
		check > faults
		plan 0 0 > plan 2 0
		plan 1 0 > plan 2 0
		plan 2 0 > error 1
		plan 2 7 > error 1
		plan 0 1 > error 3
		plan 0 -1 > error 3
		behind 0 > behind 7 8 10 10
		behind 1 > behind 6 8 10 10
		behind 2 > error 1
		lead > lead 0
		cuts > cuts 1
		read 1 1 0 0 -1 50 60 > ok 2
		plan 0 0 > plan 2 0
		book 1 > book 41 0 1 0
		plan 0 0 > error 3
		behind 0 > behind
		behind 1 > behind 10 12 10 10
		lead > lead
		cuts > cuts 1
		check > faults
		done 1 9 > done
		book 9 > error 3
		lead > lead
		undo 1 2 1 2 > ok 3
		check > faults
		book 1 > book 0 1 1 2
		lead > lead 0
	`)
}

// P10.1, P10.4, B18: a house does the work of the book; it goes on up to the first error, which is not told.
func TestDone(t *testing.T) {
	wantRun(t, "done", setting+"begin 2\n", `
		read 1 3 0 0 -1 11 20 > ok 1
		book 1 > book 0 1 1 2
		done 3 4 > error 3
		done 0 4 > error 3
		behind 0 > behind 7 8 10 10
		done 1 4 > done 2 3
		heights 1 0 > heights 7 8 10 10
		heights 1 1 > heights 6 8 10 10
		crash 1 0 0 -1 > ok
		heights 1 0 > heights 7 8 10 10
		done 1 -1 > done
		done 1 100000 > done
		heights 1 0 > heights 7 8 10 10
		done 2 99999 > done 1 2
		heights 2 1 > heights 6 8 10 10
		settle > ok
		heights 1 1 > heights 2 4 10 10
		done 2 99999 > done 3 4
		book 1 > book 0 1 1 0
		done 1 4 > done
	`)
	deep := strings.NewReplacer("aim 0 0 0 8", "aim 0 0 -500 -388", "aim 0 1 0 20", "aim 0 1 -500 20").Replace(setting)
	wantRun(t, "a plan of 200 strokes", deep+"begin 1\n", `
		book 1 > book 0 1 1 68
		plan 0 0 > plan 200 0
		done 1 1 > done 1 2
		heights 1 0 > heights -390 -388 10 10
		book 1 > book 0 1 1 0
	`)
	wantRun(t, "a plan of 201 strokes", strings.Replace(deep, "-388", "-389", 1)+"begin 1\n", `
		book 1 > book 0 1 1 68
		plan 0 0 > plan 201 0
		done 1 1 > error 2
		done 7 1 > error 2
		check > faults
	`)
	notes := strings.Repeat("undo 1 0 1 1\n", 366)
	lines := strings.Split(string(books.Run([]byte(begun+notes+"book 1\ndone 1 4\n"))), "\n")
	want(t, "few notes are left", lines[len(lines)-3:], []string{"book 0 1 1 2", "done 367 368", ""})
}

// P10.1, B18: books with a Trouble.
func TestConsoleTroubles(t *testing.T) {
	reach := strings.Replace(setting, "dresser 3 0 1", "dresser 3 1", 1)
	wantRun(t, "a line is not reached", reach+"begin 1\n", `
		book 1 > book 55 1 1 0
		check > faults
		plan 0 0 > plan 2 0
		lead > lead 0
		done 1 1 > done 1 2
	`)
	wantRun(t, "no balance", setting+"tol 0\ncompass 0 1 -1 0\nbegin 1\n", `
		book 1 > book 61 1 1 2
		check > faults
		lead > lead
	`)
	wantRun(t, "no stone", setting, `
		start 1 1 -100000 -100000 > ok
		aim 1 1 -100000 100000 > ok
		begin 1 > ok
		strokes 1 0 1 0 1 > ok 1
		lines 1 > lines 1 -1 3 1
		book 1 > book 60 1 1 1
		lead > lead
		check > faults
	`)
}
