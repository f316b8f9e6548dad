package books_test

import (
	"bytes"
	"slices"
	"strings"
	"testing"

	"millrind/books"
)

// setting is what makes the mill of the base, ahead of begin.
const setting = `face 1 1 2
drive 0 0 1 0 1
drive 0 1 1 0 0
drive 0 2 1 0 0
drive 1 0 1 0 0
drive 1 1 1 0 0
drive 1 2 1 0 0
drive 2 0 1 0 0
drive 2 1 1 0 0
drive 2 2 1 0 0
gap 10 20
grades 0 1
size 1 4
bill 2 2 1
tol 100
start 0 0 10 12
start 0 1 10 10
start 1 0 10 12
start 1 1 10 10
aim 0 0 0 8
aim 0 1 0 20
aim 1 0 0 8
aim 1 1 0 20
dresser 3 0 1
compass 1 0 -1 0
pocket 10 0 5
mesh 8 8 0
`

// wantRun runs a script behind another one, all of whose lines are ok. Each line of it is a command, and what it gives behind an arrow.
func wantRun(t *testing.T, what, ahead, script string) {
	t.Helper()
	commands, answers := ahead, strings.Repeat("ok\n", strings.Count(ahead, "\n"))
	for line := range strings.Lines(strings.TrimSpace(script)) {
		command, answer, is := strings.Cut(strings.TrimSpace(line), " > ")
		if !is {
			t.Fatalf("%s: no answer in %q", what, line)
		}
		commands += command + "\n"
		answers += answer + "\n"
	}
	got := string(books.Run([]byte(commands)))
	l, m := strings.Split(commands, "\n"), strings.Split(got, "\n")
	for i, answer := range strings.Split(answers, "\n") {
		if i >= len(m) || m[i] != answer {
			t.Fatalf("%s: the line %d, %q: got %q, want %q", what, i, l[i], m[min(i, len(m)-1)], answer)
		}
	}
	want(t, what+": the lines", len(m), len(l))
}

const begun = setting + "begin 1\n"

// P10.1, B18, the chapter's example 3.
func TestExampleRun(t *testing.T) {
	want(t, "Run", string(books.Run([]byte("begin 1\ntol 5"))), "error 100\nok\n")
}

// P10.1, B18: lines, empty ones, the end, and scripts and numbers of lines that are too great.
func TestLines(t *testing.T) {
	for script, printed := range map[string]string{
		"":                        "",
		"\n":                      "\n",
		"\n\n":                    "\n\n",
		"tol 1":                   "ok\n",
		"tol 1\n":                 "ok\n",
		"tol 1\n\n":               "ok\n\n",
		"\ntol 1\n\n\ntol 1":      "\nok\n\n\nok\n",
		"tol 1\r\ntol 1\n":        "error 103\nok\n",
		" \n":                     "error 103\n",
		"\x00":                    "error 103\n",
		"tol 1\x00\nx\xff\ntol 1": "error 103\nerror 103\nok\n",
	} {
		want(t, text(script), string(books.Run([]byte(script))), printed)
	}
	ok := strings.Repeat("ok\n", 400)
	want(t, "400 lines", string(books.Run([]byte(strings.Repeat("tol 1\n", 400)))), ok)
	want(t, "400 lines and an empty one", string(books.Run([]byte(strings.Repeat("tol 1\n", 400)+"\n"))), ok)
	want(t, "400 lines and a last one", string(books.Run([]byte(strings.Repeat("tol 1\n", 400)+"tol 1"))), ok)
	want(t, "1000 lines", string(books.Run([]byte(strings.Repeat("tol 1\n", 1000)))), ok)
	want(t, "1000 empty lines", string(books.Run(bytes.Repeat([]byte{10}, 1000))), strings.Repeat("\n", 400))
	full := strings.Repeat("x", 65530) + "\ntol 5"
	want(t, "a script of 65536 bytes", string(books.Run([]byte(full))), "error 103\nok\n")
	want(t, "a script of 65537 bytes", string(books.Run([]byte(full+"\n"))), "error 2\n")
	want(t, "a script of 65537 line feeds", string(books.Run(bytes.Repeat([]byte{10}, 65537))), "error 2\n")
}

// P10.1, B18: a script is not changed, and what is kept of one script is not there in the next one.
func TestScriptsAreKept(t *testing.T) {
	script := []byte(begun + "book 1\ncheck\n")
	first := books.Run(script)
	want(t, "the script", string(script), begun+"book 1\ncheck\n")
	want(t, "the same script", string(books.Run(script)), string(first))
	want(t, "a further script", string(books.Run([]byte("check\nbegin 1"))), "error 104\nerror 100\n")
}

// arities are the words of all commands, with the numbers of arguments that they may have, up to 12.
func arities() map[string][]int {
	from := func(least int) []int {
		var l []int
		for n := least; n <= 12; n++ {
			l = append(l, n)
		}
		return l
	}
	return map[string][]int{
		"face": {3}, "kind": {4}, "drive": {5, 8, 11}, "gap": {2}, "grades": from(0), "size": {2}, "start": {4}, "aim": {4}, "bill": {3},
		"dresser": from(1), "compass": {0, 2, 4, 6, 8, 10, 12}, "pocket": {3}, "tol": {1}, "mesh": {3}, "begin": {1},
		"heap": {4}, "pass": {5}, "read": {7}, "strokes": from(4), "fixheap": {6}, "fixpass": {5}, "fixread": {9}, "fixstrokes": from(6), "undo": {4},
		"sync": {1}, "ask": {2}, "deliver": {1}, "lose": {1}, "double": {1}, "crash": {4}, "settle": {0},
		"heights": {2}, "clash": {2}, "hard": {3}, "lines": {1}, "conflicts": {1}, "book": {1},
		"check": {0}, "plan": {2}, "behind": {1}, "lead": {0}, "cuts": {0}, "done": {2},
	}
}

// settings are the commands ahead of begin.
const settings = " face kind drive gap grades size start aim bill dresser compass pocket tol mesh begin "

const bookQuestions = " check plan behind lead cuts done "

// P10.1, B18: another number of arguments is error 103, ahead of begin and behind it; then a command that comes too early or too late is error 104.
func TestArities(t *testing.T) {
	for word, l := range arities() {
		for args := range 13 {
			line := word + strings.Repeat(" 9", args) + "\n"
			early, late, withBook := "error 103", "error 103", "error 103"
			if slices.Contains(l, args) {
				early, late, withBook = "error 104", "", ""
				if strings.Contains(settings, " "+word+" ") {
					early, late, withBook = "", "error 104", "error 104"
				} else if strings.Contains(bookQuestions, " "+word+" ") {
					late = "error 104"
				}
			}
			for ahead, answer := range map[string]string{"": early, begun: late, begun + "book 1\n": withBook} {
				lines := strings.Split(string(books.Run([]byte(ahead+line))), "\n")
				got := lines[len(lines)-2]
				if answer != "" && got != answer || answer == "" && (got == "error 103" || got == "error 104") {
					t.Errorf("%q behind %d lines: got %q, want %q", line, len(lines)-2, got, answer)
				}
			}
		}
	}
	wantRun(t, "words that there are not", begun, `
		x > error 103
		books 1 > error 103
		heigths 1 0 > error 103
		error 1 > error 103
		ok > error 103
		faults > error 103
	`)
}

// P10.1, B18: the commands ahead of begin: their errors, with which nothing changes.
func TestSettings(t *testing.T) {
	wantRun(t, "errors", "", `
		kind 2 0 0 0 > error 1
		kind -1 0 0 0 > error 1
		kind 0 0 0 0 > error 10
		start 0 0 1 1 > error 1
		aim 1 0 1 1 > error 1
		face 0 1 2 > error 1
		face 17 1 2 > error 1
		face 1 0 2 > error 1
		face 1 25 2 > error 1
		face 1 1 1 > error 1
		face 1 1 97 > error 1
		face 1 1000000000 1000000000 > error 1
		face -1 -1 -1 > error 1
		face 16 24 96 > ok
		kind 1 23 95 2 > ok
		face 1 1 2 > ok
		kind 0 1 0 1 > error 3
		kind 0 0 2 1 > error 3
		kind 1 0 -1 3 > error 3
		kind 1 0 0 3 > error 1
		kind 1 0 0 -1 > error 1
		kind 2 0 0 3 > error 1
		kind 1 0 1 2 > ok
		start 0 2 1 1 > error 1
		start 0 -1 1 1 > error 1
		start 2 0 1 1 > error 1
		start -1 0 1 1 > error 1
		start 1 1 7 -7 > ok
		aim 0 2 1 1 > error 1
		aim 2 0 1 1 > error 1
		aim 0 1 7 -7 > ok
		drive 3 0 1 0 1 > error 1
		drive -1 0 1 0 1 > error 1
		drive 0 3 1 0 1 > error 1
		drive 0 -1 1 0 1 > error 1
		drive 0 0 1 0 2 > error 1
		drive 0 0 1 0 -1 > error 1
		drive 0 0 1 0 1 1 1 2 > error 1
		drive 0 0 7 -7 0 > ok
		drive 2 2 1 0 0 1 0 0 1 0 0 > ok
		gap -5 1000000000 > ok
		grades > ok
		grades -1 -1 9 > ok
		size 0 0 > ok
		bill 0 0 0 > ok
		dresser -1 > ok
		compass > ok
		pocket 0 0 -1 > ok
		tol -1 > ok
		mesh 0 0 0 > ok
		begin 1 > error 100
		sync 1 > error 104
	`)
}

// P10.1, B18: what each command sets can be seen of whether begin succeeds, and of what is told then; with an error nothing changes.
func TestSettingsCount(t *testing.T) {
	for command, undo := range map[string]string{
		"start 1 0 3 2":          "start 1 0 10 12",
		"aim 0 1 100001 100001":  "aim 0 1 0 20",
		"bill 0 2 1":             "bill 2 2 1",
		"bill 2 2 3":             "bill 2 2 1",
		"gap -1 20":              "gap 10 20",
		"gap 10 -1":              "gap 10 20",
		"grades 1":               "grades 0 1",
		"grades":                 "grades 0",
		"size 4 3":               "size 1 4",
		"tol -1":                 "tol 0",
		"compass 1 0":            "compass 1 0 -1 0",
		"compass":                "compass 1 0 -1 0",
		"drive 0 0 0 0 1":        "drive 0 0 1 0 1",
		"drive 1 2 1 0 1 1 0 0":  "drive 1 2 1 0 0 1 0 1 1 1 0",
		"drive 2 2 2 0 0":        "drive 2 2 1 0 0",
		"drive 0 1 1 0 0 1 0 0":  "drive 0 1 1 0 0",
		"bill 5 4 1":             "bill 4 5 1",
		"start 0 1 -100001 0":    "start 0 1 -100000 0",
		"compass 1 0 -1 0 0 0":   "compass 1 0 -1 0",
		"size 0 1":               "size 1 4095",
		"grades 0 5 5":           "grades 0 5 64",
		"gap 1000000001 1":       "gap 1000000000 1000000000",
		"compass 1001 0 0 0":     "compass 1000 -1000 0 0",
		"compass 0 -1001 0 0":    "compass 0 -1000 0 0",
		"drive 0 0 1 0 0 0 1 0":  "drive 0 0 1 0 1",
		"drive 0 0 1 1 1 1 -1 1": "drive 0 0 1 -1 1 1 1 1",
		"aim 1 1 5 4":            "aim 1 1 4 5",
		"tol 1000000000000":      "tol 1000000000",
		"start 1 1 1000000000 1": "start 1 1 1 1",
		"bill 2 1000000000 1":    "bill 2 100000 2",
	} {
		set := "ok"
		if command == "gap 1000000001 1" || command == "tol 1000000000000" {
			wantRun(t, command, setting, command+" > error 103\n"+undo+" > ok\nbegin 1 > ok\n")
			continue
		}
		wantRun(t, command, setting, command+" > "+set+"\nbegin 1 > error 100\nsync 1 > error 104\n"+undo+" > ok\nbegin 1 > ok\nsync 1 > ok\n")
	}
	for _, last := range []string{"dresser 0", "dresser 3 2", "dresser 3 1 0", "pocket 0 0 256", "pocket 1000001 0 1", "pocket 0 -1000001 1", "mesh 0 1 0", "mesh 1 4097 0", "mesh 1 1 1001"} {
		wantRun(t, last, setting, last+" > ok\nbegin 1 > error 100\n")
	}
	wantRun(t, "houses", setting, `
		begin 0 > error 100
		begin 9 > error 100
		begin -1 > error 100
		tol 3 > ok
		begin 8 > ok
		begin 8 > error 104
		sync 8 > ok
		sync 9 > error 1
	`)
	wantRun(t, "a face again", setting, `
		kind 0 0 0 1 > ok
		face 1 1 2 > ok
		begin 1 > ok
		heights 1 0 > heights 0 0 0 0
		heights 1 1 > heights 0 0 0 0
		lines 1 > lines 1 -1 1 -1
		book 1 > book 0 1 1 0
		cuts > cuts 1
		plan 0 0 > plan 0 0
	`)
	wantRun(t, "a furrow of the bed", setting, "kind 0 0 0 1 > ok\nbegin 1 > ok\nbook 1 > book 0 1 1 2\ncuts > cuts 0\n")
	wantRun(t, "a furrow of the runner", setting, "kind 1 0 1 2 > ok\ndrive 0 2 1 0 1 > ok\nbegin 1 > ok\nbook 1 > book 0 1 1 2\ncuts > cuts 1\n")
	wantRun(t, "more dressers", setting, "dresser 1 1 > ok\nbegin 1 > ok\nbook 1 > book 0 1 1 1\n")
	wantRun(t, "a heavier side", setting, `
		start 1 0 100 100 > ok
		compass 10 0 -10 0 > ok
		pocket -900 0 9 > ok
		aim 1 0 0 100 > ok
		begin 1 > ok
		book 1 > book 0 1 1 1
		lead > lead 0 6
	`)
}

// P10.1, B18: what houses note, with the errors of Do.
func TestNotes(t *testing.T) {
	wantRun(t, "notes", begun, `
		heap 1 0 2 3 > ok 1
		heap 2 0 2 3 > error 1
		heap 0 0 2 3 > error 1
		heap 1 0 3 2 > error 80
		heap 1 -1 2 3 > error 80
		heap 1 100000 2 3 > error 80
		heap 1 1 2 256 > error 80
		pass 1 1 1 1 1 > ok 2
		pass 1 1 1 1 0 > error 80
		pass 1 1 1 2 1 > error 91
		pass 1 1 9 1 1 > error 80
		read 1 1 0 1 -1 4 4 > ok 3
		read 1 1 2 1 -1 4 4 > error 80
		read 1 1 0 1 1 4 4 > error 80
		read 1 1 0 1 0 5 4 > error 80
		read 1 1 1 1 0 -5 5 > ok 4
		strokes 1 1 0 0 0 1 1 > ok 5
		strokes 1 1 0 0 > error 80
		strokes 1 1 0 1 0 > error 80
		strokes 1 1 0 0 1 0 > error 80
		strokes 1 1 0 0 2 > error 80
		heights 1 0 > heights 2 4 0 0
		heights 1 1 > heights 4 8 4 6
		hard 1 0 0 > hard 3
		conflicts 1 > conflicts
		fixpass 1 1 1 2 2 > ok 6
		heights 1 0 > error 41
		fixread 1 1 1 3 0 1 -1 -9 19 > ok 7
		heights 1 0 > heights -4 2 -6 -2
		hard 1 0 0 > hard 2 3
		fixheap 1 0 1 1 2 2 > ok 8
		hard 1 0 0 > hard 2
		heights 1 0 > heights 0 2 -2 -2
		fixstrokes 1 1 1 5 1 0 0 > ok 9
		heights 1 0 > heights 2 4 2 2
		heights 1 1 > heights 0 2 2 2
		undo 1 1 1 5 > ok 10
		heights 1 1 > heights 2 4 2 2
		undo 1 1 1 9 > ok 11
		fixpass 1 1 1 3 5 > ok 12
		undo 1 0 2 7 > ok 13
		conflicts 1 > conflicts 1 11 1 12 1 13
		undo 1 0 1 1 > ok 14
		conflicts 1 > conflicts 1 2 1 11 1 12 1 13
		fixheap 1 1 1 1 2 300 > error 80
		fixpass 1 1 1 2 0 > error 80
		fixread 1 1 1 3 0 2 -1 0 0 > error 80
		fixstrokes 1 1 1 5 0 0 > error 80
		fixstrokes 1 1 1 5 0 1 0 > error 80
		undo 1 1 9 1 > error 80
		undo 1 1 1 401 > error 80
		undo 2 1 1 1 > error 1
		heights 1 0 > heights 10 12 10 10
	`)
}

// P10.1, B18: a correction by a note of another kind has the fields of that kind.
func TestCorrections(t *testing.T) {
	wantRun(t, "corrections", begun, `
		read 1 3 0 0 -1 11 11 > ok 1
		fixstrokes 1 4 1 1 1 0 0 1 > ok 2
		heights 1 0 > heights 10 12 10 10
		heights 1 1 > heights 8 10 8 8
		fixheap 1 5 1 1 2 5 > ok 3
		heights 1 1 > heights 10 12 10 10
		hard 1 1 0 > hard 2 3 4 5
		fixread 1 5 1 1 1 0 1 1 1 > ok 4
		heights 1 1 > heights 11 11 10 10
		hard 1 1 0 > error 1
		conflicts 1 > conflicts
	`)
}

// P10.1, B18: what happens in the world of houses: messages, losses and settling.
func TestActs(t *testing.T) {
	wantRun(t, "messages", setting+"begin 3\n", `
		settle > ok
		deliver 0 > error 3
		lose 0 > error 3
		double 0 > error 3
		ask 1 1 > error 1
		ask 1 4 > error 1
		ask 0 1 > error 1
		sync 4 > error 1
		read 1 1 0 0 -1 11 20 > ok 1
		ask 2 1 > ok
		deliver 0 > ok
		deliver 1 > error 3
		heights 2 0 > heights 10 12 10 10
		double 0 > ok
		deliver 1 > ok
		heights 2 0 > heights 11 12 10 10
		heights 3 0 > heights 10 12 10 10
		lose 0 > ok
		lose 0 > error 3
		lose -1 > error 3
		read 2 1 0 1 0 -2 -2 > ok 1
		heights 2 0 > heights 12 12 10 10
		heights 1 0 > heights 11 12 10 10
		settle > ok
		heights 1 0 > heights 12 12 10 10
		heights 3 0 > heights 12 12 10 10
		crash 4 0 0 -1 > error 1
		crash 1 1 0 -1 > error 1
		crash 1 0 1 -1 > error 1
		crash 1 0 0 0 > error 1
		crash 1 0 0 -2 > error 1
		crash 1 0 0 -1 > ok
		heights 1 0 > heights 12 12 10 10
		read 1 1 0 0 -1 12 12 > ok 2
		crash 1 0 0 -1 > ok
		read 1 1 0 0 -1 12 12 > ok 2
		sync 1 > ok
		crash 1 0 0 -1 > ok
		read 1 1 0 0 -1 12 12 > ok 3
		crash 1 21 4 -1 > ok
		read 1 1 0 0 -1 12 12 > ok 4
		crash 1 21 3 -1 > ok
		read 1 1 0 0 -1 12 12 > ok 4
		crash 1 21 4 0 > ok
		read 1 1 0 0 -1 12 12 > ok 4
		crash 1 21 4 199 > ok
		strokes 1 1 0 0 0 > ok 4
		crash 1 0 0 -1 > ok
		heights 1 0 > heights 10 10 10 10
	`)
	full := strings.Repeat("ask 1 2\n", 64)
	wantRun(t, "too many messages", setting+"begin 2\n"+full, "ask 1 2 > error 2\ndouble 3 > error 2\nlose 63 > ok\ndouble 62 > ok\n")
	notes := strings.Repeat("undo 1 0 1 1\n", 150)
	answers := books.Run([]byte(setting + "begin 3\n" + notes + strings.ReplaceAll(notes, "undo 1", "undo 2") + "settle\n"))
	want(t, "many notes", strings.HasSuffix(string(answers), "ok 150\nok\n"), true)
}
