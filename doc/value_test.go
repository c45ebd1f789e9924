package doc_test

import (
	"math/rand"
	"slices"
	"strings"
	"testing"

	"scarf/doc"
)

// made is a document, and the pieces that it must have by the chapter's words.
type made struct {
	doc    doc.Doc
	pieces []doc.Piece
}

func madeText(s string) made {
	if s == "" {
		return made{doc: doc.Text(s)}
	}
	return made{doc.Text(s), []doc.Piece{{Kind: textPiece, Text: s}}}
}

func madeBreak(d doc.Doc, kind int) made {
	return made{d, []doc.Piece{{Kind: kind}}}
}

func madeNest(m made) made {
	return made{doc.Nest(m.doc), slices.Concat([]doc.Piece{{Kind: nestBegin}}, m.pieces, []doc.Piece{{Kind: nestEnd}})}
}

func madeGroup(m made) made {
	return made{doc.Group(m.doc), slices.Concat([]doc.Piece{{Kind: groupBegin}}, m.pieces, []doc.Piece{{Kind: groupEnd}})}
}

func madeRow(l ...made) made {
	docs, pieces := parts(made{}, l)
	return made{doc.Row(docs...), pieces}
}

func madeJoin(by made, l ...made) made {
	docs, pieces := parts(by, l)
	return made{doc.Join(by.doc, docs...), pieces}
}

// parts are some documents, and all their pieces with those of by between any two.
func parts(by made, l []made) ([]doc.Doc, []doc.Piece) {
	var docs []doc.Doc
	var pieces []doc.Piece
	for i, m := range l {
		if i > 0 {
			pieces = append(pieces, by.pieces...)
		}
		docs, pieces = append(docs, m.doc), append(pieces, m.pieces...)
	}
	return docs, pieces
}

// flat tells what pieces are flat; false, if there is a hard.
func flat(l []doc.Piece) (string, bool) {
	if slices.Contains(l, doc.Piece{Kind: hardPiece}) {
		return "", false
	}
	all := ""
	for _, p := range l {
		if p.Kind == linePiece {
			all += " "
		}
		all += p.Text
	}
	return all, true
}

// hold holds a document against the pieces that it must have.
func hold(t *testing.T, m made) {
	t.Helper()
	if got := m.doc.Plain(); !slices.Equal(got, m.pieces) {
		t.Fatalf("Plain: %s; want %s", shown(got), shown(m.pieces))
	}
	want, wantOK := flat(m.pieces)
	if got, ok := m.doc.Flat(); got != want || ok != wantOK {
		t.Fatalf("Flat of %s: %q, %v; want %q, %v", shown(m.pieces), got, ok, want, wantOK)
	}
}

// leaves are documents that are made of no other one.
func leaves() []made {
	return []made{{}, madeText(""), madeText("a"), madeText(" \n\t"), madeText("\xff\x00"),
		madeBreak(doc.Line(), linePiece), madeBreak(doc.Soft(), softPiece), madeBreak(doc.Hard(), hardPiece)}
}

// over are documents that are made of one or two of l.
func over(l []made) []made {
	more := []made{madeRow(), madeJoin(l[0])}
	for _, a := range l {
		more = append(more, madeNest(a), madeGroup(a), madeRow(a), madeJoin(a, a), madeJoin(a), madeJoin(a, a, a, a))
		for _, b := range l {
			more = append(more, madeRow(a, b), madeJoin(a, b), madeJoin(a, b, b), madeJoin(a, a, b))
		}
	}
	return more
}

// P7.1, P7.2: all small documents, and, at the end once more, that none of them was changed by what was made of it (P7.3).
func TestSmallDocuments(t *testing.T) {
	small := leaves()
	all := append(small, over(small)...)
	for _, a := range small {
		for _, b := range small {
			for _, c := range small {
				all = append(all, madeRow(a, b, c), madeJoin(a, b, c), madeJoin(madeNest(a), b, madeGroup(c)), madeGroup(madeRow(madeNest(a), b, madeNest(c))))
			}
		}
	}
	for _, m := range all {
		hold(t, m)
	}
	for _, a := range all {
		hold(t, madeNest(a))
		hold(t, madeGroup(a))
		for _, b := range all[:60] {
			hold(t, madeRow(a, b))
			hold(t, madeRow(b, a, b))
			hold(t, madeJoin(b, a, a))
			hold(t, madeJoin(a, b, b))
		}
	}
	for _, m := range all {
		hold(t, m)
	}
}

// some tells so many of l, chosen by r.
func some(r *rand.Rand, l []made, n int) []made {
	var chosen []made
	for range n {
		chosen = append(chosen, l[r.Intn(len(l))])
	}
	return chosen
}

// P7.1 to P7.3: documents that are made of documents, of which many stand in several others; all of them are looked at when all are made.
func TestDocumentsOfDocuments(t *testing.T) {
	for seed := range int64(300) {
		r := rand.New(rand.NewSource(seed))
		all := leaves()
		for range 100 {
			l := some(r, all, 1+r.Intn(4))
			var m made
			switch r.Intn(5) {
			case 0:
				m = madeNest(l[0])
			case 1:
				m = madeGroup(l[0])
			case 2:
				m = madeJoin(l[0], l[1:]...)
			default:
				m = madeRow(l...)
			}
			if len(m.pieces) < 500 {
				all = append(all, m)
			}
		}
		for _, m := range all {
			hold(t, m)
		}
	}
}

// bracketed tells a row of l in rows of rows, chosen by r.
func bracketed(r *rand.Rand, l []doc.Doc) doc.Doc {
	if len(l) < 2 {
		return doc.Row(l...)
	}
	at := r.Intn(len(l) + 1)
	ahead, behind := doc.Row(l[:at]...), doc.Row(l[at:]...)
	if at > 0 && at < len(l) {
		ahead, behind = bracketed(r, l[:at]), bracketed(r, l[at:])
	}
	return doc.Row(ahead, doc.Row(), behind)
}

// P7.3: a row of rows has the pieces of all, however they are put together.
func TestRowsOfRows(t *testing.T) {
	r := rand.New(rand.NewSource(1))
	all := over(leaves())
	for range 2000 {
		docs, pieces := parts(made{}, some(r, all, r.Intn(9)))
		hold(t, made{bracketed(r, docs), pieces})
	}
	ahead, behind := doc.Row(doc.Text("a"), doc.Line()), doc.Row(doc.Soft(), doc.Nest(doc.Text("b")))
	want(t, doc.Row(ahead, behind), `"a" _ . < "b" >`, "a b")
	want(t, doc.Row(doc.Row(ahead), doc.Row(doc.Row(), behind, ahead)), `"a" _ . < "b" > "a" _`, "a ba ")
}

// P7.3: what is made of a document doesn't change it, nor what else was made of it.
func TestDocumentsAreValues(t *testing.T) {
	a, b, c := doc.Text("a"), doc.Line(), doc.Text("c")
	ab := doc.Row(a, b)
	first, second := doc.Row(ab, a), doc.Row(ab, c)
	joined, other := doc.Join(ab, a, c), doc.Join(ab, c, a)
	nested, grouped := doc.Nest(ab), doc.Group(ab)
	twice := doc.Row(nested, ab, nested, grouped)
	copied := ab
	ab = doc.Row(ab, ab, doc.Hard())
	for range 3 {
		want(t, a, `"a"`, "a")
		want(t, b, "_", " ")
		want(t, c, `"c"`, "c")
		want(t, copied, `"a" _`, "a ")
		want(t, ab, `"a" _ "a" _ !`, noFlat)
		want(t, first, `"a" _ "a"`, "a a")
		want(t, second, `"a" _ "c"`, "a c")
		want(t, joined, `"a" "a" _ "c"`, "aa c")
		want(t, other, `"c" "a" _ "a"`, "ca a")
		want(t, nested, `< "a" _ >`, "a ")
		want(t, grouped, `[ "a" _ ]`, "a ")
		want(t, twice, `< "a" _ > "a" _ < "a" _ > [ "a" _ ]`, "a a a a ")
	}
}

// P7.3: rows grow from one beginning, each its own way.
func TestRowsFromOneBeginning(t *testing.T) {
	beginning, text := doc.Doc{}, ""
	for range 20 {
		var ends []doc.Doc
		for c := range 5 {
			ends = append(ends, doc.Row(beginning, doc.Text(string(rune('a'+c)))))
		}
		for c, d := range ends {
			if got, ok := d.Flat(); got != text+string(rune('a'+c)) || !ok {
				t.Fatalf("end %d behind %q: %q, %v", c, text, got, ok)
			}
		}
		beginning, text = ends[3], text+"d"
	}
}

// P7.3, and 'Memory': neither a list nor the room behind its end is changed, and what is done to it later shows nowhere.
func TestListsAreNotKept(t *testing.T) {
	makers := []struct {
		of           func(l ...doc.Doc) doc.Doc
		pieces, flat string
	}{
		{doc.Row, `"a" < _ > "b" .`, "a b"},
		{func(l ...doc.Doc) doc.Doc { return doc.Join(doc.Text(","), l...) }, `"a" "," "," < _ > "," "b" "," "," .`, "a,, ,b,,"},
		{func(l ...doc.Doc) doc.Doc { return doc.Join(doc.Doc{}, l...) }, `"a" < _ > "b" .`, "a b"},
		{func(l ...doc.Doc) doc.Doc { return doc.Nest(doc.Row(l...)) }, `< "a" < _ > "b" . >`, "a b"},
		{func(l ...doc.Doc) doc.Doc { return doc.Group(doc.Join(doc.Text(""), l...)) }, `[ "a" < _ > "b" . ]`, "a b"},
		{func(l ...doc.Doc) doc.Doc { return doc.Row(doc.Row(l...), doc.Row(l[:1]...)) }, `"a" < _ > "b" . "a"`, "a ba"},
	}
	for _, maker := range makers {
		room := []doc.Doc{doc.Text("a"), {}, doc.Nest(doc.Line()), doc.Text("b"), doc.Text(""), doc.Soft(), doc.Text("behind"), {}, doc.Text("end")}
		pieces := []string{`"a"`, "", "< _ >", `"b"`, "", ".", `"behind"`, "", `"end"`}
		l := room[:6]
		d, other := maker.of(l...), maker.of(l...)
		for i := range room {
			if got := shown(room[i].Plain()); got != pieces[i] {
				t.Errorf("the list's document %d became %s; it was %s", i, got, pieces[i])
			}
		}
		for i := range room {
			room[i] = doc.Hard()
			want(t, d, maker.pieces, maker.flat)
		}
		_ = append(l[:0], doc.Text("?"), doc.Text("?"))
		want(t, d, maker.pieces, maker.flat)
		want(t, other, maker.pieces, maker.flat)
	}
}

// scribble writes over all pieces of an answer, and the room behind its end.
func scribble(l []doc.Piece) {
	l = l[:cap(l)]
	for i := range l {
		l[i] = doc.Piece{Kind: 99, Text: "?"}
	}
}

// P7.3, and 'Memory': what is done to an answer shows in no document and in no other answer.
func TestAnswersAreNewMemory(t *testing.T) {
	for _, a := range append(leaves(), over(leaves())...) {
		d := madeRow(a, madeText("x"), madeGroup(a))
		first, second := d.doc.Plain(), d.doc.Plain()
		inner := a.doc.Plain()
		scribble(first)
		scribble(inner)
		if !slices.Equal(second, d.pieces) {
			t.Fatalf("%s became %s", shown(d.pieces), shown(second))
		}
		hold(t, d)
		hold(t, a)
		hold(t, madeNest(d))
		third := d.doc.Plain()
		_ = append(second, doc.Piece{Kind: 99})
		_ = append(second[:1], doc.Piece{Kind: 99})
		if !slices.Equal(third, d.pieces) {
			t.Fatalf("%s became %s", shown(d.pieces), shown(third))
		}
		hold(t, d)
	}
}

// The same question has the same answer, whatever was asked ahead of it.
func TestSameAnswers(t *testing.T) {
	d := doc.Group(doc.Row(doc.Text("a"), doc.Nest(doc.Row(doc.Line(), doc.Text("b"))), doc.Soft()))
	hard := doc.Row(d, doc.Hard(), doc.Text(strings.Repeat("c", 100)))
	for range 10 {
		want(t, d, `[ "a" < _ "b" > . ]`, "a b")
		want(t, hard, `[ "a" < _ "b" > . ] ! "`+strings.Repeat("c", 100)+`"`, noFlat)
	}
}
