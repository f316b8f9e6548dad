package stones

import (
	"strconv"
	"strings"

	"millrind/api"
)

// Print returns the text of a face.
func Print(f api.Face) (string, api.Errno) {
	if !Valid(f) {
		return "", api.ErrFace
	}
	var b strings.Builder
	b.WriteString("face")
	for _, n := range [3]int{f.Eye, f.Rings, f.Sectors} {
		b.WriteByte(' ')
		b.WriteString(strconv.Itoa(n))
	}
	for i, kind := range f.Kinds {
		if i%f.Sectors == 0 {
			b.WriteByte('\n')
		}
		b.WriteByte(".sf"[kind])
	}
	b.WriteByte('\n')
	return b.String(), api.OK
}

// Parse returns the face of a text, or the number of the first line that is wrong.
func Parse(s string) (api.Face, api.Errno, int) {
	if len(s) > api.MaxText {
		return api.Face{}, api.ErrLimit, 0
	}
	var f api.Face
	lines := 0
	for text := range strings.Lines(s) {
		line, ended := strings.CutSuffix(text, "\n")
		if !ended || !readLine(&f, lines, line) {
			return api.Face{}, api.ErrText, lines + 1
		}
		lines++
	}
	if lines != f.Rings+1 {
		return api.Face{}, api.ErrText, lines + 1
	}
	return f, api.OK, 0
}

// readLine adds the line with an index to the face that the lines ahead of it tell, and reports whether it can stand there.
func readLine(f *api.Face, index int, line string) bool {
	switch {
	case index == 0:
		return readHead(f, line)
	case index > f.Rings:
		return false
	}
	return readRing(f, line)
}

func readHead(f *api.Face, line string) bool {
	words := strings.Split(line, " ")
	if len(words) != 4 || words[0] != "face" {
		return false
	}
	var sizes [3]int
	for i, word := range words[1:] {
		n, err := strconv.Atoi(word)
		// Atoi takes signs and superfluous zeros, too.
		if err != nil || strconv.Itoa(n) != word {
			return false
		}
		sizes[i] = n
	}
	f.Eye, f.Rings, f.Sectors = sizes[0], sizes[1], sizes[2]
	return sizesFit(*f)
}

func readRing(f *api.Face, line string) bool {
	if len(line) != f.Sectors {
		return false
	}
	for i := range len(line) {
		kind, ok := readKind(line[i])
		if !ok {
			return false
		}
		f.Kinds = append(f.Kinds, kind)
	}
	return true
}

// readKind returns the kind of a cell that a byte stands for.
func readKind(b byte) (int, bool) {
	kind := api.Land
	switch b {
	case 'f':
		kind++
		fallthrough
	case 's':
		kind++
		fallthrough
	case '.':
		return kind, true
	}
	return 0, false
}
