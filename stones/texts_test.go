package stones_test

import (
	"strings"
	"testing"

	"millrind/api"
	"millrind/stones"
)

const sampleText = "face 1 2 4\n.s..\n.sf.\n"

// P1.1: the chapter's examples of texts.
func TestTextExamples(t *testing.T) {
	if got := must[string](t, "Print")(stones.Print(sampleF())); got != sampleText {
		t.Errorf("Print(f): got %q", got)
	}
	f, e, at := stones.Parse(sampleText)
	ok(t, "Parse", e)
	wantFace(t, "Parse", f, sampleF())
	if at != 0 {
		t.Errorf("Parse: got line %d", at)
	}
	for _, s := range []string{"face 1 2 4\n.s..\n", "face 1 2 4\n.s..\n.sf."} {
		wantTextError(t, s, 3)
	}
	wantTextError(t, "face 1 2 04\n", 1)
	all := api.Face{Eye: 1, Rings: 1, Sectors: 2, Kinds: []int{0, 0}}
	if got := must[string](t, "Print")(stones.Print(all)); got != "face 1 1 2\n..\n" {
		t.Errorf("Print of all land: got %q", got)
	}
}

func wantTextError(t *testing.T, s string, line int) {
	t.Helper()
	f, e, at := stones.Parse(s)
	if e != api.ErrText || at != line || !stones.Same(f, api.Face{}) {
		t.Errorf("Parse(%q): got %v, error %d, line %d; want line %d", s, f, e, at, line)
	}
}

// P1.1, S24: first lines that cannot stand there.
func TestWrongFirstLines(t *testing.T) {
	for _, head := range []string{
		"", " ", "face", "face ", "face 1 2", "face 1 2 ", "face 1 2 4 ", "face 1 2 4 1", " face 1 2 4", "face  1 2 4", "face 1  2 4",
		"Face 1 2 4", "fac 1 2 4", "faces 1 2 4", "face1 2 4", "face 1 2 4\r", "\tface 1 2 4", "face\t1 2 4", "face 1,2,4", "face 1 2 four",
		"face 01 2 4", "face 1 02 4", "face 1 2 04", "face 00 2 4", "face +1 2 4", "face 1 +2 4", "face 1 2 +4", "face -1 2 4", "face 1 -2 4", "face 1 2 -4",
		"face 0 2 4", "face 1 0 4", "face 1 2 0", "face 1 2 1", "face 17 2 4", "face 1 25 4", "face 1 2 97",
		"face 1 2 4.0", "face 1 2 0x4", "face 1 2 1_0", "face 1 2 4e0", "face 1 2 \uff14",
		"face 18446744073709551617 2 4", "face 1 18446744073709551618 4", "face 1 2 18446744073709551620",
		"face 1 2 " + strings.Repeat("9", 5000), "face" + strings.Repeat(" ", 5000), ".s..", ".sf.",
	} {
		wantTextError(t, head+"\n.s..\n.sf.\n", 1)
		wantTextError(t, head+"\n", 1)
		wantTextError(t, head, 1)
	}
	wantTextError(t, "face 1 2 4", 1)
	for _, head := range []string{"face 16 1 2", "face 1 24 96", "face 10 10 10"} {
		wantTextError(t, head+"\n", 2)
	}
}

// P1.1, S24: lines of rings that cannot stand there, are unended, or missing, or too many.
func TestWrongRings(t *testing.T) {
	for _, ring := range []string{"", "...", ".....", "..s.\r", "..S.", "..F.", "....s", "..,.", "... ", " ...", "..\x00.", "0000", ".\u00b7.", "face"} {
		wantTextError(t, "face 1 2 4\n"+ring+"\n.sf.\n", 2)
		wantTextError(t, "face 1 2 4\n.s..\n"+ring+"\n", 3)
		wantTextError(t, "face 1 2 4\n.s..\n"+ring, 3)
	}
	wantTextError(t, sampleText+"....\n", 4)
	wantTextError(t, sampleText+"....", 4)
	wantTextError(t, sampleText+"\n", 4)
	wantTextError(t, sampleText+" ", 4)
	wantTextError(t, sampleText+sampleText, 4)
	wantTextError(t, "\n"+sampleText, 1)
	wantTextError(t, "\xef\xbb\xbf"+sampleText, 1)
	wantTextError(t, "face 1 1 2\n..\n..\n..\n", 3)
}

// P1.1, S24: every beginning of a text misses the line behind its last line feed.
func TestUnendedTexts(t *testing.T) {
	for _, f := range sampleFaces()[:20] {
		text := must[string](t, "Print")(stones.Print(f))
		for n := range len(text) {
			wantTextError(t, text[:n], strings.Count(text[:n], "\n")+1)
		}
	}
}

// P1.1, S24: overlong texts, whatever is in them.
func TestOverlongTexts(t *testing.T) {
	for _, s := range []string{
		strings.Repeat("x", api.MaxText+1),
		strings.Repeat("\n", api.MaxText+1),
		sampleText + strings.Repeat(".", api.MaxText+1-len(sampleText)),
	} {
		if f, e, at := stones.Parse(s); e != api.ErrLimit || at != 0 || !stones.Same(f, api.Face{}) {
			t.Errorf("Parse of %d bytes: error %d, line %d", len(s), e, at)
		}
	}
	wantTextError(t, strings.Repeat("x", api.MaxText), 1)
	wantTextError(t, sampleText+strings.Repeat(".", api.MaxText-len(sampleText)), 4)
	wantTextError(t, "face 1 2 4\n"+strings.Repeat(".", api.MaxText-12)+"\n", 2)
}

// P1.10 and P0.2: Parse of what Print returns is the face, and Print of what Parse returns is the text.
func TestPrintAndParse(t *testing.T) {
	for _, f := range sampleFaces() {
		before := cloneFace(f)
		text := must[string](t, "Print")(stones.Print(f))
		g, e, at := stones.Parse(text)
		ok(t, "Parse", e)
		wantFace(t, "Parse of Print", g, f)
		if at != 0 {
			t.Errorf("Parse of Print of %v: line %d", f, at)
		}
		if again := must[string](t, "Print")(stones.Print(g)); again != text {
			t.Errorf("Print of Parse: got %q, want %q", again, text)
		}
		wantFace(t, "the argument of Print", f, before)
	}
}

// P1.10: a text with a byte that is changed is wrong in the line of that byte, or is the text of another face.
func TestChangedBytes(t *testing.T) {
	for i := range len(sampleText) {
		for _, b := range []byte("x 0\n\r.sf\x00\xff") {
			s := sampleText[:i] + string([]byte{b}) + sampleText[i+1:]
			f, e, _ := stones.Parse(s)
			if e == api.OK {
				if got := must[string](t, "Print")(stones.Print(f)); got != s {
					t.Errorf("Print of Parse of %q: got %q", s, got)
				}
				continue
			}
			wantTextError(t, s, strings.Count(sampleText[:i], "\n")+1)
		}
	}
}

// P1.10: the number does not depend on what follows behind the wrong line, if that line is ended.
func TestWhatFollowsWrongLines(t *testing.T) {
	for _, x := range []struct {
		text string
		line int
	}{
		{"face 1 2\n", 1}, {"\n", 1}, {"face 1 2 4\n.s.\n", 2}, {"face 1 2 4\n\n", 2}, {"face 1 2 4\n.s..\n.sx.\n", 3}, {sampleText + "x\n", 4}, {sampleText + "\n", 4},
	} {
		for _, tail := range []string{"", "x", "\n", ".sf.", ".sf.\n", "face 1 2 4\n", sampleText, strings.Repeat("\n", 100)} {
			wantTextError(t, x.text+tail, x.line)
		}
	}
}
