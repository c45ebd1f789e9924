package layout_test

import (
	"math/rand"
	"slices"
	"strings"
	"testing"

	"scarf/api"
	"scarf/doc"
	"scarf/layout"
)

// rows hands on the signs of all documents of so many signs and brackets.
func rows(signs []string, n int, to func(l []string)) {
	var grow func(l, open []string)
	grow = func(l, open []string) {
		if len(l)+len(open) > n {
			return
		}
		if len(l) == n {
			to(l)
			return
		}
		for _, sign := range signs {
			grow(append(l, sign), open)
		}
		grow(append(l, "<"), append(slices.Clone(open), ">"))
		grow(append(l, "["), append(slices.Clone(open), "]"))
		if last := len(open) - 1; last >= 0 {
			grow(append(l, open[last]), open[:last])
		}
	}
	grow(nil, nil)
}

// P8.1, P8.2: all small documents.
func TestSmallDocuments(t *testing.T) {
	for n := range 6 {
		rows([]string{"a", "é€\xbf", "_", ".", "!"}, n, func(l []string) {
			signs := strings.Join(l, " ")
			s := sheetOf(t, signs)
			for width := 1; width <= 8; width++ {
				hold(t, signs, s, width)
			}
		})
	}
	rows([]string{"a", "_"}, 8, func(l []string) {
		signs := strings.Join(l, " ")
		s := sheetOf(t, signs)
		for width := 1; width <= 5; width++ {
			hold(t, signs, s, width)
		}
	})
}

// signsBy tells the signs of a document, chosen by r; without groups or hards, if so asked.
func signsBy(r *rand.Rand, n int, groups, hards bool) string {
	texts := []string{"a", "bcd", "é€😀", `"\xff\xbf"`, `"\xbf"`, `"\x20"`, `"\t"`, "f(", "),", "a-word-of-some-length"}
	var words, open []string
	for range n {
		k := r.Intn(12)
		switch {
		case k < 4:
			words = append(words, texts[r.Intn(len(texts))])
		case k == 4 && hards && r.Intn(3) == 0:
			words = append(words, "!")
		case k < 6:
			words = append(words, "_")
		case k < 7:
			words = append(words, ".")
		case k < 8:
			words, open = append(words, "<"), append(open, ">")
		case k < 10 && groups:
			words, open = append(words, "["), append(open, "]")
		case len(open) > 0:
			words, open = append(words, open[len(open)-1]), open[:len(open)-1]
		}
	}
	slices.Reverse(open)
	return strings.Join(append(words, open...), " ")
}

// P8.1, P8.2: documents by chance, on all narrow pages.
func TestDocumentsByChance(t *testing.T) {
	for seed := range int64(1000) {
		r := rand.New(rand.NewSource(seed))
		signs := signsBy(r, 1+r.Intn(80), true, seed%3 > 0)
		s := sheetOf(t, signs)
		for width := 1; width <= 60; width++ {
			hold(t, signs, s, width)
		}
		for _, width := range []int{61, 80, 100, 200, 1000, 65535} {
			hold(t, signs, s, width)
		}
	}
}

// P8.2: a group whose flat text, with what stands behind it, fits the page is flat; on a page that is narrower by one it isn't, which its last break shows: that one is in no group within it.
func TestGroupsThatFit(t *testing.T) {
	for seed := range int64(2000) {
		r := rand.New(rand.NewSource(seed))
		inner, ahead, behind := signsBy(r, r.Intn(20), true, false), strings.Repeat("x", r.Intn(9)), strings.Repeat("é", r.Intn(9))
		group := doc.Group(doc.Row(sheetOf(t, inner).doc, doc.Line(), doc.Text("z")))
		flat, _ := group.Flat()
		row := doc.Row(doc.Hard(), doc.Text(ahead), group, doc.Text(behind), doc.Soft(), doc.Text("and so on"))
		for deep := range 4 {
			tabs := strings.Repeat("\t", deep)
			want := "\n" + tabs + ahead + flat + behind + "\n" + tabs + "and so on"
			least := 4*deep + wide(ahead+flat+behind)
			for _, width := range []int{least, least + 1, 65535} {
				wantDoc(t, inner, row, width, want)
			}
			if got, e := layout.Of(row, least-1); got == want || e != api.OK {
				t.Errorf("%s for %d: %q, %d, though it doesn't fit", inner, least-1, got, e)
			}
			row = doc.Nest(row)
		}
	}
}

// P8.2: a document without groups has as many newlines as breaks, on any page.
func TestWithoutGroups(t *testing.T) {
	for seed := range int64(2000) {
		r := rand.New(rand.NewSource(seed))
		signs := signsBy(r, r.Intn(60), false, true)
		s := sheetOf(t, signs)
		breaks := 0
		for _, l := range s.leaves {
			if l.word != "" {
				breaks++
			}
		}
		laid := s.laid(1)
		for _, width := range []int{1, 2, 10, 80, 65535} {
			wantDoc(t, signs, s.doc, width, laid)
		}
		got, e := layout.Of(s.doc, 1+r.Intn(65535))
		if strings.Count(got, "\n") != breaks || e != api.OK {
			t.Fatalf("%s: %q, %d; it has %d breaks", signs, got, e, breaks)
		}
	}
}

// What is asked changes nothing: a document has the same pieces and the same layouts again, whatever was asked between.
func TestSameAnswers(t *testing.T) {
	signs := "[ f( < . [ a, _ b, ] _ [ g( < . c, _ d > ) ] > ) ] < _ > ! [ x . y ]"
	s := sheetOf(t, signs)
	pieces := s.doc.Plain()
	var first []string
	for width := 1; width <= 40; width++ {
		got, _ := layout.Of(s.doc, width)
		first = append(first, got)
	}
	for width := 40; width >= 1; width-- {
		layout.Of(s.doc, 0)
		layout.Of(doc.Nest(s.doc), width)
		wantDoc(t, signs, s.doc, width, first[width-1])
		hold(t, signs, s, width)
	}
	if !slices.Equal(s.doc.Plain(), pieces) {
		t.Errorf("%s became %v", signs, s.doc.Plain())
	}
}

// A document that stands in several others, or several times in one, is laid out where it stands.
func TestSharedDocuments(t *testing.T) {
	d := doc.Group(doc.Row(doc.Text("a"), doc.Nest(doc.Row(doc.Line(), doc.Text("b")))))
	whole := doc.Row(d, doc.Hard(), doc.Nest(doc.Row(d, doc.Hard(), d)), doc.Hard(), doc.Group(doc.Row(d, d)))
	wantDoc(t, "shared", whole, 2, "a\n\tb\na\n\t\tb\n\ta\n\t\tb\na\n\tba\n\tb")
	wantDoc(t, "shared", whole, 3, "a b\na b\n\ta\n\t\tb\na\n\tba\n\tb")
	wantDoc(t, "shared", whole, 6, "a b\na b\n\ta\n\t\tb\na ba b")
	wantDoc(t, "shared", whole, 7, "a b\na b\n\ta b\na ba b")
}
