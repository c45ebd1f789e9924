package doc_test

import (
	"runtime/debug"
	"slices"
	"strings"
	"testing"

	"scarf/doc"
)

// way is a way of standing deep: what is put around a document; its pieces are those of ahead and behind with that document's between.
type way struct {
	around        func(d doc.Doc) doc.Doc
	ahead, behind []doc.Piece
	flatAhead     string
	flatBehind    string
}

func ways() []way {
	x, line, soft := doc.Text("x"), doc.Line(), doc.Soft()
	text, blank, none := doc.Piece{Kind: textPiece, Text: "x"}, doc.Piece{Kind: linePiece}, doc.Piece{Kind: softPiece}
	nest, nested := doc.Piece{Kind: nestBegin}, doc.Piece{Kind: nestEnd}
	group, grouped := doc.Piece{Kind: groupBegin}, doc.Piece{Kind: groupEnd}
	return []way{
		{doc.Nest, []doc.Piece{nest}, []doc.Piece{nested}, "", ""},
		{doc.Group, []doc.Piece{group}, []doc.Piece{grouped}, "", ""},
		{func(d doc.Doc) doc.Doc { return doc.Row(d) }, nil, nil, "", ""},
		{func(d doc.Doc) doc.Doc { return doc.Row(doc.Doc{}, d, doc.Text("")) }, nil, nil, "", ""},
		{func(d doc.Doc) doc.Doc { return doc.Row(d, x) }, nil, []doc.Piece{text}, "", "x"},
		{func(d doc.Doc) doc.Doc { return doc.Row(x, d) }, []doc.Piece{text}, nil, "x", ""},
		{func(d doc.Doc) doc.Doc { return doc.Row(x, line, d, soft) }, []doc.Piece{text, blank}, []doc.Piece{none}, "x ", ""},
		{func(d doc.Doc) doc.Doc { return doc.Join(line, d, x) }, nil, []doc.Piece{blank, text}, "", " x"},
		{func(d doc.Doc) doc.Doc { return doc.Join(line, x, d) }, []doc.Piece{text, blank}, nil, "x ", ""},
		{func(d doc.Doc) doc.Doc { return doc.Join(d, x, doc.Doc{}) }, []doc.Piece{text}, nil, "x", ""},
		{func(d doc.Doc) doc.Doc { return doc.Group(doc.Nest(d)) }, []doc.Piece{group, nest}, []doc.Piece{nested, grouped}, "", ""},
		{func(d doc.Doc) doc.Doc { return doc.Nest(doc.Row(line, doc.Group(d))) }, []doc.Piece{nest, blank, group}, []doc.Piece{grouped, nested}, " ", ""},
		{func(d doc.Doc) doc.Doc { return doc.Group(doc.Row(d, x, doc.Nest(doc.Row(line, x)))) },
			[]doc.Piece{group}, []doc.Piece{text, nest, blank, text, nested, grouped}, "", "x x"},
	}
}

// holdDeep holds a document that is so many times around inner against what it must be.
func holdDeep(t *testing.T, n, times int, w way, inner made) {
	t.Helper()
	d := inner.doc
	for range times {
		d = w.around(d)
	}
	if got := d.Plain(); !slices.Equal(got, slices.Concat(slices.Repeat(w.ahead, times), inner.pieces, slices.Repeat(w.behind, times))) {
		t.Errorf("way %d, %d times around %s: %d pieces, that aren't right", n, times, shown(inner.pieces), len(got))
	}
	want, wantOK := flat(inner.pieces)
	if wantOK {
		want = strings.Repeat(w.flatAhead, times) + want + strings.Repeat(w.flatBehind, times)
	}
	if got, ok := d.Flat(); got != want || ok != wantOK {
		t.Errorf("way %d, %d times around %s: flat it is %.50q, %v", n, times, shown(inner.pieces), got, ok)
	}
}

// P1, P7.1, P7.2: documents as deep in one another as may be; what is innermost is there.
func TestDeep(t *testing.T) {
	for n, w := range ways() {
		for _, times := range []int{1, 2, 255, 256, 257, 1 << 14, 1 << 15} {
			for _, inner := range []made{{}, madeText("a"), madeBreak(doc.Hard(), hardPiece)} {
				holdDeep(t, n, times, w, inner)
			}
		}
	}
	holdDeep(t, 0, 1<<16, ways()[0], made{})
	holdDeep(t, 1, 1<<16, ways()[1], madeBreak(doc.Soft(), softPiece))
	holdDeep(t, 5, 1<<16, ways()[5], madeBreak(doc.Hard(), hardPiece))
}

// P1: a long sum is deep in its first parts, far deeper than calls may be: that takes no room on the stack.
func TestLongByFirstParts(t *testing.T) {
	defer debug.SetMaxStack(debug.SetMaxStack(1 << 19))
	for _, n := range []int{0, 1, 4, 7, 10, 12} {
		holdDeep(t, n, 1<<18, ways()[n], madeText("a"))
	}
}

// P1: of nothing, doubled again and again, there is nothing, and that is told at once.
func TestDoubledNothing(t *testing.T) {
	for n, twice := range []func(d doc.Doc) doc.Doc{
		func(d doc.Doc) doc.Doc { return doc.Row(d, d) },
		func(d doc.Doc) doc.Doc { return doc.Row(doc.Row(d, d, d), doc.Row(d, d)) },
		func(d doc.Doc) doc.Doc { return doc.Join(d, d, d, d) },
		func(d doc.Doc) doc.Doc { return doc.Join(doc.Text(""), doc.Row(d), d) },
		func(d doc.Doc) doc.Doc { return doc.Row(doc.Row(d, d), doc.Join(d, doc.Text(""), d)) },
	} {
		for _, d := range []doc.Doc{{}, doc.Text(""), doc.Row(), doc.Join(doc.Hard())} {
			for range 1000 {
				d = twice(d)
			}
			want(t, d, "", "")
			want(t, doc.Nest(d), "< >", "")
			want(t, doc.Row(d, doc.Text("x"), d), `"x"`, "x")
			if t.Failed() {
				t.Fatalf("way %d", n)
			}
		}
	}
}

// P1: where the first of many parts is deep, and where each part is, too.
func TestDeepInMany(t *testing.T) {
	deep := madeText("a")
	for range 50 {
		deep = madeNest(madeGroup(madeRow(deep, madeBreak(doc.Line(), linePiece))))
	}
	for _, n := range []int{1, 2, 300} {
		l := slices.Repeat([]made{deep}, n)
		hold(t, madeRow(l...))
		hold(t, madeJoin(deep, l...))
		hold(t, madeGroup(madeJoin(madeBreak(doc.Hard(), hardPiece), l...)))
	}
}
