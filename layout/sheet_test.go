package layout_test

import (
	"slices"
	"strconv"
	"strings"
	"testing"

	"scarf/api"
	"scarf/doc"
	"scarf/layout"
)

// leaf is a text or a break of a sheet: how deep it is nested, and which groups it is in, from the outermost on.
type leaf struct {
	word   string // a break's sign; "" for a text
	text   string
	nest   int
	groups []int
}

// span is a group: its first leaf, and the one behind its last.
type span struct{ first, end int }

// sheet is a document with what the test itself knows of it.
type sheet struct {
	doc    doc.Doc
	leaves []leaf
	groups []span
}

// sheetOf reads a document's signs: a line as _, a soft as ., a hard as !, a nest in < >, a group in [ ], a text as itself, or quoted.
func sheetOf(t *testing.T, signs string) sheet {
	t.Helper()
	var s sheet
	words := strings.Fields(signs)
	d, rest := s.read(words, 0, nil)
	if len(rest) > 0 {
		t.Fatalf("signs of no document: %s", signs)
	}
	s.doc = d
	return s
}

func (s *sheet) read(words []string, nest int, groups []int) (doc.Doc, []string) {
	var row []doc.Doc
	for len(words) > 0 && words[0] != ">" && words[0] != "]" {
		var d doc.Doc
		word := words[0]
		words = words[1:]
		switch word {
		case "<":
			d, words = s.read(words, nest+1, groups)
			row, words = append(row, doc.Nest(d)), words[1:]
		case "[":
			n := len(s.groups)
			s.groups = append(s.groups, span{first: len(s.leaves)})
			d, words = s.read(words, nest, append(slices.Clone(groups), n))
			s.groups[n].end = len(s.leaves)
			row, words = append(row, doc.Group(d)), words[1:]
		default:
			l := leafOf(word)
			l.nest, l.groups = nest, groups
			s.leaves = append(s.leaves, l)
			row = append(row, leafDoc(l))
		}
	}
	return doc.Row(row...), words
}

func leafOf(word string) leaf {
	if word == "_" || word == "." || word == "!" {
		return leaf{word: word}
	}
	if text, err := strconv.Unquote(word); err == nil {
		return leaf{text: text}
	}
	return leaf{text: word}
}

func leafDoc(l leaf) doc.Doc {
	switch l.word {
	case "_":
		return doc.Line()
	case ".":
		return doc.Soft()
	case "!":
		return doc.Hard()
	}
	return doc.Text(l.text)
}

// wide tells a text's width by the chapter's words.
func wide(s string) int {
	n := len(s)
	for _, b := range []byte(s) {
		if b>>6 == 2 {
			n--
		}
	}
	return n
}

// fits tells whether a group that begins at a column is flat by the chapter's words.
func (s sheet) fits(g span, column, width int) bool {
	for _, l := range s.leaves[g.first:g.end] {
		if l.word == "!" {
			return false
		}
		column += wide(l.text)
		if l.word == "_" {
			column++
		}
	}
	for _, l := range s.leaves[g.end:] {
		if l.word != "" {
			break
		}
		column += wide(l.text)
	}
	return column <= width
}

// laid tells the sheet's layout by the chapter's words, leaf by leaf.
func (s sheet) laid(width int) string {
	text, column, tabs := "", 0, 0
	flat := make([]bool, len(s.groups))
	for i, l := range s.leaves {
		isFlat := false
		for _, g := range l.groups {
			if !isFlat && s.groups[g].first == i {
				flat[g] = s.fits(s.groups[g], column, width)
			}
			isFlat = isFlat || flat[g]
		}
		if l.word != "" && !isFlat {
			text, column, tabs = text+"\n", 4*l.nest, l.nest
			continue
		}
		written := l.text
		if l.word == "_" {
			written = " "
		}
		if written != "" {
			text, column, tabs = text+strings.Repeat("\t", tabs)+written, column+wide(written), 0
		}
	}
	return text
}

// texts tells all texts of a sheet.
func (s sheet) texts() string {
	text := ""
	for _, l := range s.leaves {
		text += l.text
	}
	return text
}

// solid tells a text without its blanks, tabs and newlines.
func solid(s string) string {
	return strings.NewReplacer(" ", "", "\t", "", "\n", "").Replace(s)
}

// want holds a document's layout for a width against what it must be.
func want(t *testing.T, signs string, width int, laid string) {
	t.Helper()
	s := sheetOf(t, signs)
	wantDoc(t, signs, s.doc, width, laid)
	if got := s.laid(width); got != laid {
		t.Errorf("%s for %d: the test's own layout is %q; want %q", signs, width, got, laid)
	}
}

func wantDoc(t *testing.T, name string, d doc.Doc, width int, laid string) {
	t.Helper()
	if got, e := layout.Of(d, width); got != laid || e != api.OK {
		t.Errorf("%s for %d: %.200q, %d; want %.200q", name, width, got, e, laid)
	}
}

// hold holds a sheet's layout for a width against the test's own, and against what follows from it.
func hold(t *testing.T, signs string, s sheet, width int) {
	t.Helper()
	got, e := layout.Of(s.doc, width)
	if want := s.laid(width); got != want || e != api.OK {
		t.Fatalf("%s for %d: %q, %d; want %q", signs, width, got, e, want)
	}
	if solid(got) != solid(s.texts()) {
		t.Fatalf("%s for %d: %q; its texts are %q", signs, width, got, s.texts())
	}
}
