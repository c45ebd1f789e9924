package print_test

import (
	"slices"
	"strconv"
	"strings"
	"testing"

	"scarf/api"
	"scarf/doc"
	"scarf/layout"
	"scarf/print"
)

// The kinds of pieces, as chapter 7 numbers them.
const (
	textPiece  = 1
	linePiece  = 2
	softPiece  = 3
	hardPiece  = 4
	nestBegin  = 5
	nestEnd    = 6
	groupBegin = 7
	groupEnd   = 8
)

// sheets tells each kind's document in the chapter's words: T is its Text, a digit a Kid's document, (0) that in the parentheses that it needs;
// a line is _, a nest < >, a group [ ]; from a ? and a digit to a / is there only if that Kid is; of the Kids from that number on
// L() and L[] are a list, {} braces, C all of them with commas between. Other words are texts, with ~ for a blank.
func sheets() map[int]string {
	return map[int]string{
		api.KPackage:  "package~ T",
		api.KImport:   "import~ T",
		api.KNote:     "T",
		api.KName:     "T",
		api.KInt:      "T",
		api.KStr:      "T",
		api.KConst:    "[ const~ T ~= < _ 0 > ]",
		api.KVar:      "var~ T ?0 ~ 0 / ?1 [ ~= < _ 1 > ] /",
		api.KType:     "type~ T ~ 0",
		api.KFunc:     "func~ ?0 ( 0 )~ / T 1 ?2 ~ 2 / ~ 3",
		api.KParams:   "L()0",
		api.KPtr:      "* 0",
		api.KSlice:    "[] 0",
		api.KMap:      "map[ 0 ] 1",
		api.KStruct:   "struct~ {}",
		api.KField:    "T ~ 0",
		api.KParam:    "T ~ 0",
		api.KBlock:    "{}",
		api.KIf:       "if~ 0 ~ 1 ?2 ~else~ 2 /",
		api.KFor:      "for~ ?0 0 ~ / 1",
		api.KReturn:   "return ?0 ~ [ < C > ] /",
		api.KAssign:   "[ 0 ~ T < _ 1 > ]",
		api.KInc:      "0 T",
		api.KDo:       "0",
		api.KBreak:    "break",
		api.KContinue: "continue",
		api.KUnary:    "T (0)",
		api.KBinary:   "[ (0) ~ T < _ (1) > ]",
		api.KCall:     "(0) L()1",
		api.KIndex:    "(0) L[]1",
		api.KDot:      "(0) . T",
	}
}

func sign(kind int) []doc.Piece { return []doc.Piece{{Kind: kind}} }

func text(s string) []doc.Piece { return []doc.Piece{{Kind: textPiece, Text: s}} }

func row(l ...[]doc.Piece) []doc.Piece { return slices.Concat(l...) }

func nest(l ...[]doc.Piece) []doc.Piece { return row(sign(nestBegin), row(l...), sign(nestEnd)) }

func group(l ...[]doc.Piece) []doc.Piece { return row(sign(groupBegin), row(l...), sign(groupEnd)) }

// fileSheet tells a file's pieces by the chapter's words.
func fileSheet(t api.Node) []doc.Piece {
	var l []doc.Piece
	for i, n := range t.Kids {
		if i > 0 {
			l = append(l, sign(hardPiece)...)
			ahead := t.Kids[i-1]
			if ahead.Kind != api.KNote && !(ahead.Kind == api.KImport && n.Kind == api.KImport) {
				l = append(l, sign(hardPiece)...)
			}
		}
		l = append(l, itemSheet(n)...)
	}
	return append(l, sign(hardPiece)...)
}

func itemSheet(n api.Node) []doc.Piece {
	if n.Trail == "" {
		return sheet(n)
	}
	return row(sheet(n), text(" "), text(n.Trail))
}

// sheet tells a node's pieces by its kind's words.
func sheet(n api.Node) []doc.Piece {
	var l []doc.Piece
	words := strings.Fields(sheets()[n.Kind])
	for i := 0; i < len(words); i++ {
		if words[i][0] == '?' {
			if at := int(words[i][1] - '0'); at >= len(n.Kids) || n.Kids[at].Kind == api.KNone {
				i += slices.Index(words[i:], "/")
			}
			continue
		}
		l = append(l, wordSheet(n, words[i])...)
	}
	return l
}

func wordSheet(n api.Node, word string) []doc.Piece {
	kinds := map[string]int{"_": linePiece, "<": nestBegin, ">": nestEnd, "[": groupBegin, "]": groupEnd}
	switch {
	case word == "]" && n.Kind == api.KMap:
		return text("]")
	case kinds[word] > 0:
		return sign(kinds[word])
	case word == "/":
		return nil
	case word == "T":
		return text(n.Text)
	case word == "C":
		return commas(n.Kids)
	case word == "{}":
		return bracesSheet(n.Kids)
	case word[0] == 'L':
		return listSheet(word[1:2], n.Kids[int(word[3]-'0'):], word[2:3])
	case len(word) == 3 && word[0] == '(':
		return operandSheet(n, int(word[1]-'0'))
	}
	if at, err := strconv.Atoi(word); err == nil {
		return sheet(n.Kids[at])
	}
	return text(strings.ReplaceAll(word, "~", " "))
}

func commas(kids []api.Node) []doc.Piece {
	var l []doc.Piece
	for i, n := range kids {
		if i > 0 {
			l = row(l, text(","), sign(linePiece))
		}
		l = row(l, sheet(n))
	}
	return l
}

func listSheet(open string, kids []api.Node, shut string) []doc.Piece {
	if len(kids) == 0 {
		return row(text(open), text(shut))
	}
	return group(text(open), nest(sign(softPiece), commas(kids)), text(shut))
}

func bracesSheet(kids []api.Node) []doc.Piece {
	if len(kids) == 0 {
		return text("{}")
	}
	var l []doc.Piece
	for _, n := range kids {
		l = row(l, sign(hardPiece), itemSheet(n))
	}
	return row(text("{"), nest(l), sign(hardPiece), text("}"))
}

func operandSheet(n api.Node, at int) []doc.Piece {
	if !needsParen(n, at) {
		return sheet(n.Kids[at])
	}
	return group(text("("), nest(sign(softPiece), sheet(n.Kids[at])), text(")"))
}

// strength tells how strongly an operator binds, by chapter 5's words.
func strength(op string) int {
	return slices.IndexFunc(binaries, func(ops string) bool { return slices.Contains(strings.Fields(ops), op) })
}

// needsParen tells whether a Kid stands in parentheses, by chapter 5's words.
func needsParen(n api.Node, at int) bool {
	kid := n.Kids[at]
	if n.Kind != api.KBinary {
		return kid.Kind == api.KBinary || kid.Kind == api.KUnary
	}
	return kid.Kind == api.KBinary && (strength(kid.Text) < strength(n.Text) || at == 1 && strength(kid.Text) == strength(n.Text))
}

// wantSheet holds a tree's document against that of the chapter's words, and its program against that document's layout.
func wantSheet(t *testing.T, file api.Node) {
	t.Helper()
	d, e := print.Doc(file)
	if got, want := d.Plain(), fileSheet(file); e != api.OK || !slices.Equal(got, want) {
		t.Fatalf("%v: %d; its pieces are\n%v; want\n%v", file, e, got, want)
	}
	for _, width := range widths {
		want, _ := layout.Of(d, width)
		if got, e := print.Print(file, width); got != want || e != api.OK {
			t.Fatalf("%v for %d: %q, %d; want %q", file, width, got, e, want)
		}
	}
}

var widths = []int{1, 2, 7, 10, 14, 20, 33, 80, 65535}

// P9.1: each kind's document, with each sort of Kids that it may have.
func TestSheets(t *testing.T) {
	for _, n := range everyItem() {
		wantSheet(t, fileOf(n))
	}
	for _, file := range everyFile() {
		wantSheet(t, file)
	}
}

// P9.1: programs made by chance.
func TestSheetsByChance(t *testing.T) {
	made(1500, func(_ int64, file api.Node) { wantSheet(t, file) })
}

// Each kind has a sheet, but for files, which have words of their own, and what is missing.
func TestSheetsAreWhole(t *testing.T) {
	for kind := api.KFile + 1; kind < api.KNone; kind++ {
		if sheets()[kind] == "" {
			t.Errorf("kind %d has no sheet", kind)
		}
	}
	if len(sheets()) != api.KNone-api.KFile-1 {
		t.Errorf("%d sheets", len(sheets()))
	}
}
