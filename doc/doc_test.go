package doc_test

import (
	"strconv"
	"strings"
	"testing"

	"scarf/doc"
)

// The kinds of pieces, as the chapter numbers them.
const (
	textPiece  = 1
	linePiece  = 2
	softPiece  = 3
	hardPiece  = 4
	nestBegin  = 5
	nestEnd    = 6
	groupBegin = 7
	groupEnd   = 8
)

// shown tells pieces as a text that no other pieces have: texts quoted, a line as _, a soft as ., a hard as !, nests in < >, groups in [ ].
func shown(l []doc.Piece) string {
	signs := []string{textPiece: "", linePiece: "_", softPiece: ".", hardPiece: "!", nestBegin: "<", nestEnd: ">", groupBegin: "[", groupEnd: "]"}
	var words []string
	for _, p := range l {
		word := "?" + strconv.Itoa(p.Kind)
		if p.Kind >= textPiece && p.Kind <= groupEnd {
			word = signs[p.Kind]
		}
		if p.Text != "" || p.Kind == textPiece {
			word += strconv.Quote(p.Text)
		}
		words = append(words, word)
	}
	return strings.Join(words, " ")
}

// want holds a document against its pieces, and its flat text; noFlat says that there is a hard in it.
func want(t *testing.T, d doc.Doc, pieces, flat string) {
	t.Helper()
	if got := shown(d.Plain()); got != pieces {
		t.Errorf("Plain: %s; want %s", got, pieces)
	}
	got, ok := d.Flat()
	if flat == noFlat && (got != "" || ok) || flat != noFlat && (got != flat || !ok) {
		t.Errorf("Flat of %s: %q, %v; want %q", pieces, got, ok, flat)
	}
}

const noFlat = "\x00none"

// The chapter's example.
func TestExample(t *testing.T) {
	d := doc.Row(doc.Text("f("), doc.Nest(doc.Row(doc.Soft(), doc.Text("a,"), doc.Line(), doc.Text("b"))), doc.Text(")"))
	want(t, d, `"f(" < . "a," _ "b" > ")"`, "f(a, b)")
	if n := len(d.Plain()); n != 8 {
		t.Errorf("%d pieces", n)
	}
}

// P7.1, P7.2: what is made of no other document.
func TestAlone(t *testing.T) {
	var nothing doc.Doc
	want(t, nothing, "", "")
	want(t, doc.Doc{}, "", "")
	want(t, doc.Text(""), "", "")
	want(t, doc.Line(), "_", " ")
	want(t, doc.Soft(), ".", "")
	want(t, doc.Hard(), "!", noFlat)
	for _, s := range []string{"a", "f(", " ", "\t", "\n", "\r\n", "a\nb\n", "\x00", "\xff", "a\xc3", "\xed\xa0\x80", "é€😀", "<", "_", strings.Repeat("long ", 1<<16)} {
		want(t, doc.Text(s), strconv.Quote(s), s)
		if l := doc.Text(s).Plain(); len(l) != 1 || l[0] != (doc.Piece{Kind: textPiece, Text: s}) {
			t.Errorf("pieces of the text %.20q: %s", s, shown(l))
		}
	}
}

// P7.1: pieces that aren't texts have no Text; the numbers are the chapter's.
func TestKinds(t *testing.T) {
	got := doc.Group(doc.Row(doc.Nest(doc.Text("x")), doc.Line(), doc.Soft(), doc.Hard())).Plain()
	l := []doc.Piece{{Kind: 7}, {Kind: 5}, {Kind: 1, Text: "x"}, {Kind: 6}, {Kind: 2}, {Kind: 3}, {Kind: 4}, {Kind: 8}}
	if len(got) != len(l) {
		t.Fatalf("%s", shown(got))
	}
	for i, p := range l {
		if got[i] != p {
			t.Errorf("piece %d: %v; want %v", i, got[i], p)
		}
	}
}

// P7.1, P7.2: nests and groups, of nothing and in one another, too.
func TestNestAndGroup(t *testing.T) {
	x, none := doc.Text("x"), doc.Doc{}
	for _, c := range []struct {
		d            doc.Doc
		pieces, flat string
	}{
		{doc.Nest(x), `< "x" >`, "x"},
		{doc.Group(x), `[ "x" ]`, "x"},
		{doc.Nest(none), "< >", ""},
		{doc.Group(none), "[ ]", ""},
		{doc.Nest(doc.Text("")), "< >", ""},
		{doc.Group(doc.Row()), "[ ]", ""},
		{doc.Nest(doc.Nest(none)), "< < > >", ""},
		{doc.Group(doc.Group(none)), "[ [ ] ]", ""},
		{doc.Nest(doc.Group(none)), "< [ ] >", ""},
		{doc.Group(doc.Nest(none)), "[ < > ]", ""},
		{doc.Nest(doc.Nest(doc.Nest(x))), `< < < "x" > > >`, "x"},
		{doc.Group(doc.Nest(doc.Group(doc.Line()))), "[ < [ _ ] > ]", " "},
		{doc.Nest(doc.Soft()), "< . >", ""},
		{doc.Nest(doc.Hard()), "< ! >", noFlat},
		{doc.Group(doc.Hard()), "[ ! ]", noFlat},
		{doc.Group(doc.Nest(doc.Group(doc.Hard()))), "[ < [ ! ] > ]", noFlat},
		{doc.Nest(doc.Row(x, none, doc.Line(), x)), `< "x" _ "x" >`, "x x"},
		{doc.Row(doc.Nest(x), doc.Group(x)), `< "x" > [ "x" ]`, "xx"},
		{doc.Row(doc.Nest(none), doc.Nest(none), x), `< > < > "x"`, "x"},
		{doc.Row(x, doc.Group(none), doc.Nest(doc.Row(doc.Group(x), doc.Line())), doc.Soft()), `"x" [ ] < [ "x" ] _ > .`, "xx "},
	} {
		want(t, c.d, c.pieces, c.flat)
	}
}

// P7.1, P7.2: rows of no parts, of one and of many; of nothing anywhere.
func TestRow(t *testing.T) {
	x, y, none := doc.Text("x"), doc.Text("y"), doc.Doc{}
	for _, c := range []struct {
		d            doc.Doc
		pieces, flat string
	}{
		{doc.Row(), "", ""},
		{doc.Row(nil...), "", ""},
		{doc.Row([]doc.Doc{}...), "", ""},
		{doc.Row(none), "", ""},
		{doc.Row(none, none, none), "", ""},
		{doc.Row(doc.Row(), doc.Row(doc.Row()), doc.Text("")), "", ""},
		{doc.Row(x), `"x"`, "x"},
		{doc.Row(doc.Line()), "_", " "},
		{doc.Row(doc.Hard()), "!", noFlat},
		{doc.Row(x, y), `"x" "y"`, "xy"},
		{doc.Row(y, x), `"y" "x"`, "yx"},
		{doc.Row(x, x, x), `"x" "x" "x"`, "xxx"},
		{doc.Row(none, x), `"x"`, "x"},
		{doc.Row(x, none), `"x"`, "x"},
		{doc.Row(none, x, none, y, none), `"x" "y"`, "xy"},
		{doc.Row(x, doc.Text(""), y), `"x" "y"`, "xy"},
		{doc.Row(doc.Line(), doc.Line()), "_ _", "  "},
		{doc.Row(doc.Line(), x, doc.Soft(), y, doc.Line()), `_ "x" . "y" _`, " xy "},
		{doc.Row(doc.Hard(), x), `! "x"`, noFlat},
		{doc.Row(x, doc.Hard()), `"x" !`, noFlat},
		{doc.Row(x, doc.Nest(doc.Row(y, doc.Hard())), x), `"x" < "y" ! > "x"`, noFlat},
		{doc.Row(doc.Text("\n"), doc.Text(" "), doc.Text("\xff"), doc.Text("\xc3"), doc.Text("\xa9")), `"\n" " " "\xff" "\xc3" "\xa9"`, "\n \xff\xc3\xa9"},
	} {
		want(t, c.d, c.pieces, c.flat)
	}
}

// P7.1, P7.2: what stands between is there between any two, be it nothing, a row or a hard, and be they nothing.
func TestJoin(t *testing.T) {
	x, y, none, comma := doc.Text("x"), doc.Text("y"), doc.Doc{}, doc.Text(",")
	list := doc.Row(comma, doc.Line())
	for _, c := range []struct {
		d            doc.Doc
		pieces, flat string
	}{
		{doc.Join(comma), "", ""},
		{doc.Join(comma, nil...), "", ""},
		{doc.Join(comma, []doc.Doc{}...), "", ""},
		{doc.Join(none), "", ""},
		{doc.Join(doc.Hard()), "", ""},
		{doc.Join(comma, x), `"x"`, "x"},
		{doc.Join(comma, none), "", ""},
		{doc.Join(doc.Hard(), x), `"x"`, "x"},
		{doc.Join(comma, x, y), `"x" "," "y"`, "x,y"},
		{doc.Join(comma, x, y, x), `"x" "," "y" "," "x"`, "x,y,x"},
		{doc.Join(comma, none, none), `","`, ","},
		{doc.Join(comma, none, none, none), `"," ","`, ",,"},
		{doc.Join(comma, none, x), `"," "x"`, ",x"},
		{doc.Join(comma, x, none), `"x" ","`, "x,"},
		{doc.Join(comma, x, doc.Text(""), y), `"x" "," "," "y"`, "x,,y"},
		{doc.Join(none, x, y, x), `"x" "y" "x"`, "xyx"},
		{doc.Join(doc.Text(""), x, none, y), `"x" "y"`, "xy"},
		{doc.Join(none, none, none), "", ""},
		{doc.Join(list, x, y, x), `"x" "," _ "y" "," _ "x"`, "x, y, x"},
		{doc.Join(doc.Row(none, doc.Soft(), none), x, y), `"x" . "y"`, "xy"},
		{doc.Join(doc.Hard(), x, y), `"x" ! "y"`, noFlat},
		{doc.Join(doc.Hard(), none, none), "!", noFlat},
		{doc.Join(doc.Nest(doc.Hard()), x, y), `"x" < ! > "y"`, noFlat},
		{doc.Join(doc.Group(none), x, y, x), `"x" [ ] "y" [ ] "x"`, "xyx"},
		{doc.Join(comma, x, doc.Hard()), `"x" "," !`, noFlat},
		{doc.Join(doc.Line(), doc.Row(x, y), doc.Nest(y)), `"x" "y" _ < "y" >`, "xy y"},
		{doc.Nest(doc.Join(doc.Soft(), doc.Group(x), y)), `< [ "x" ] . "y" >`, "xy"},
		{doc.Join(doc.Join(comma, x, y), y, x), `"y" "x" "," "y" "x"`, "yx,yx"},
	} {
		want(t, c.d, c.pieces, c.flat)
	}
}

// P7.1: of many parts all are there, in order.
func TestManyParts(t *testing.T) {
	const many = 20000
	var parts []doc.Doc
	var row, joined []string
	for i := range many {
		s := strconv.Itoa(i)
		parts = append(parts, doc.Text(s))
		row = append(row, strconv.Quote(s))
		joined = append(joined, s)
	}
	want(t, doc.Row(parts...), strings.Join(row, " "), strings.Join(joined, ""))
	want(t, doc.Join(doc.Line(), parts...), strings.Join(row, " _ "), strings.Join(joined, " "))
}
