package layout_test

import (
	"runtime/debug"
	"slices"
	"strings"
	"testing"

	"scarf/doc"
)

// around puts ways around d, one after the other, so many times.
func around(times int, d doc.Doc, ways ...func(d doc.Doc) doc.Doc) doc.Doc {
	for range times {
		for _, way := range ways {
			d = way(d)
		}
	}
	return d
}

func ahead(l ...doc.Doc) func(d doc.Doc) doc.Doc {
	return func(d doc.Doc) doc.Doc { return doc.Row(append(l[:len(l):len(l)], d)...) }
}

func behind(l ...doc.Doc) func(d doc.Doc) doc.Doc {
	return func(d doc.Doc) doc.Doc { return doc.Row(append([]doc.Doc{d}, l...)...) }
}

// P1, P8.1: nests and groups as deep in one another as may be.
func TestDeep(t *testing.T) {
	x, line := doc.Text("x"), doc.Line()
	for _, n := range []int{1, 2, 255, 256, 257, 1 << 14, 1<<16 - 1} {
		tabs, xs, lines := strings.Repeat("\t", n), strings.Repeat("x", n), strings.Repeat("\nx", n)
		wantDoc(t, "nests", around(n, doc.Row(line, x), doc.Nest), 80, "\n"+tabs+"x")
		wantDoc(t, "nests, and a line on which nothing is written", doc.Row(around(n, line, doc.Nest), line, x), 80, "\n\nx")
		wantDoc(t, "nests, and a text behind", doc.Row(around(n, line, doc.Nest), x), 80, "\n"+tabs+"x")
		wantDoc(t, "groups that fit", around(n, doc.Row(x, line, x), doc.Group), 3, "x x")
		wantDoc(t, "groups that don't", around(n, doc.Row(x, line, x), doc.Group), 2, "x\nx")
		wantDoc(t, "groups of a hard", around(n, doc.Row(x, line, doc.Hard()), doc.Group), 65535, "x\n\n")
		wantDoc(t, "groups and nests of nothing", around((n+1)/2, doc.Doc{}, doc.Nest, doc.Group), 1, "")
		wantDoc(t, "nests in groups that fit", around((n+1)/2, doc.Row(line, x), doc.Nest, doc.Group), 2, " x")
		wantDoc(t, "nests in groups that don't", around((n+1)/2, doc.Row(line, x), doc.Nest, doc.Group), 1, "\n"+tabs[:(n+1)/2]+"x")
		wantDoc(t, "groups that begin with a text, and don't fit", around(n, doc.Hard(), doc.Group, ahead(x)), 65535, xs+"\n")
		wantDoc(t, "groups that end with a text, and don't fit", around(n, doc.Hard(), doc.Group, behind(line, x)), 65535, "\n"+lines)
		if n < 65535 {
			wantDoc(t, "groups that begin with a text, and fit", around(n, doc.Soft(), doc.Group, ahead(x)), n, xs)
			wantDoc(t, "groups that end with a text, and fit", around(n, doc.Doc{}, doc.Group, behind(x)), n, xs)
		}
	}
}

// P8.1: of groups in one another the outer ones are broken, the inner ones, that fit, aren't.
func TestDeepGroupsThatFitInTheEnd(t *testing.T) {
	row := around(2000, doc.Doc{}, ahead(doc.Text("x"), doc.Line()), doc.Group)
	for _, width := range []int{1, 2, 3, 80, 3999, 4000, 4001} {
		flat := min(width/2, 2000)
		wantDoc(t, "groups", row, width, strings.Repeat("x\n", 2000-flat)+strings.Repeat("x ", flat))
	}
	row = around(2000, doc.Doc{}, behind(doc.Line(), doc.Text("x")), doc.Group)
	for _, width := range []int{1, 2, 3, 80, 3999, 4000, 4001} {
		flat := min(width/2, 2000)
		wantDoc(t, "groups", row, width, strings.Repeat(" x", flat)+strings.Repeat("\nx", 2000-flat))
	}
}

func many(n int, d doc.Doc) []doc.Doc {
	return slices.Repeat([]doc.Doc{d}, n)
}

// P1: many pieces, one behind the other and in one another by their first parts, as those of a long sum: this takes no room on the stack.
func TestMany(t *testing.T) {
	defer debug.SetMaxStack(debug.SetMaxStack(1 << 19))
	const n = 1 << 18
	x, line := doc.Text("x"), doc.Line()
	pair := doc.Group(doc.Row(x, line, x))
	lines, long := strings.Repeat("\nx", n), strings.Repeat("x", n)
	// 40 groups fill the first line of 80; behind it each 40th begins a line.
	filled := (strings.Repeat(" x", 40) + strings.Repeat("\nx"+strings.Repeat(" x", 39), n/40))[:2*n]
	wantDoc(t, "texts", doc.Join(doc.Text(""), many(n, x)...), 1, long)
	wantDoc(t, "texts and breaks", doc.Join(line, many(n, x)...), 1, lines[1:])
	wantDoc(t, "texts and breaks in a group", doc.Group(doc.Join(line, many(n, x)...)), 65535, lines[1:])
	wantDoc(t, "groups", doc.Row(many(n, doc.Group(doc.Row(line, x)))...), 80, filled)
	wantDoc(t, "groups, each on its line", doc.Join(line, many(n, pair)...), 3, strings.Repeat("x x\n", n)[:4*n-1])
	wantDoc(t, "groups with many texts behind", doc.Row(pair, doc.Row(many(n, x)...), pair), 65535, "x\nx"+long+"x\nx")
	wantDoc(t, "empty groups and nests", doc.Row(many(n, doc.Nest(doc.Group(doc.Doc{})))...), 1, "")
	wantDoc(t, "a long sum", around(n, x, behind(line, x), doc.Group), 1, "x"+lines)
	wantDoc(t, "a long sum of hards", around(n, x, behind(doc.Hard(), x), doc.Group), 65535, "x"+lines)
	wantDoc(t, "a long text", doc.Group(doc.Row(doc.Text(long), line, doc.Text(long))), 65535, long+"\n"+long)
}
