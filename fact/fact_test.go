package fact_test

import (
	"fmt"
	"math"
	"slices"
	"testing"

	"scarf/api"
	"scarf/fact"
	"scarf/tree"
)

// node is one.
func node(kind int, text string, kids ...api.Node) api.Node {
	return api.Node{Kind: kind, Text: text, Kids: kids}
}

// word is a fact that is one.
func word(class, kind int, text, trail string) fact.Fact {
	return fact.Fact{Sort: 1, Class: class, Kind: kind, Text: text, Trail: trail}
}

// link is a fact that is one.
func link(class, a, b int) fact.Fact {
	return fact.Fact{Sort: 2, Class: class, A: a, B: b}
}

// less is the order, as the chapter says it.
func less(x, y fact.Fact) bool {
	switch {
	case x.Sort != y.Sort:
		return x.Sort < y.Sort
	case x.Class != y.Class:
		return x.Class < y.Class
	case x.A != y.A:
		return x.A < y.A
	case x.B != y.B:
		return x.B < y.B
	case x.Kind != y.Kind:
		return x.Kind < y.Kind
	case x.Text != y.Text:
		return x.Text < y.Text
	}
	return x.Trail < y.Trail
}

// set puts each fact in its place, if it isn't there.
func set(l []fact.Fact) []fact.Fact {
	var s []fact.Fact
	for _, f := range l {
		at := 0
		for at < len(s) && less(s[at], f) {
			at++
		}
		if at == len(s) || s[at] != f {
			s = slices.Insert(s, at, f)
		}
	}
	return s
}

// facts are a tree's, in no order; next is the place behind it.
func facts(t api.Node, classes []int, at int) (l []fact.Fact, next int) {
	class, ahead := classes[at], -1
	l = []fact.Fact{word(class, t.Kind, t.Text, t.Trail)}
	next = at + 1
	for _, kid := range t.Kids {
		l = append(l, link(class, ahead, classes[next]))
		ahead = classes[next]
		var below []fact.Fact
		below, next = facts(kid, classes, next)
		l = append(l, below...)
	}
	return append(l, link(class, ahead, -1)), next
}

// right is whether there is one class for each of so many places.
func right(classes []int, size int) bool {
	for i, c := range classes {
		if c < 0 || slices.Contains(classes[:i], c) {
			return false
		}
	}
	return len(classes) == size
}

// holdTree holds what Of says of a tree, and what Tree says of that, against the chapter's words.
func holdTree(t *testing.T, n api.Node, classes []int) []fact.Fact {
	t.Helper()
	got, e := fact.Of(n, classes)
	if !right(classes, tree.Size(n)) {
		if len(got) != 0 || e != api.ErrArg {
			t.Fatal(n, classes, got, e)
		}
		return nil
	}
	l, _ := facts(n, classes, 0)
	if e != api.OK || !slices.Equal(got, set(l)) {
		t.Fatal(n, classes, got, e)
	}
	holdFacts(t, got, n, classes)
	return got
}

// holdFacts asks for the tree of facts.
func holdFacts(t *testing.T, l []fact.Fact, n api.Node, classes []int) {
	t.Helper()
	got, places, e := fact.Tree(l)
	if e != api.OK || !tree.Same(got, n) || !slices.Equal(places, classes) {
		t.Fatal(l, got, places, e)
	}
}

// wrong asks for no tree.
func wrong(t *testing.T, l ...fact.Fact) {
	t.Helper()
	if n, classes, e := fact.Tree(l); e != api.ErrFacts || !tree.Same(n, api.Node{}) || n.Kids != nil || len(classes) != 0 {
		t.Fatal(l, n, classes, e)
	}
}

// P13.2, P13.3, P13.5: the chapter's example.
func TestExample(t *testing.T) {
	n := node(api.KReturn, "", node(api.KName, "x"))
	l := []fact.Fact{word(4, api.KReturn, "", ""), word(7, api.KName, "x", ""), link(4, -1, 7), link(4, 7, -1), link(7, -1, -1)}
	got, e := fact.Of(n, []int{4, 7})
	if e != api.OK || !slices.Equal(got, l) {
		t.Fatal(got, e)
	}
	holdFacts(t, l, n, []int{4, 7})
	for i := range l {
		wrong(t, slices.Delete(slices.Clone(l), i, i+1)...)
	}
}

// P13.1: facts that rise; each but the first differs from the one ahead in one part that counts, and later parts say otherwise.
var rising = []fact.Fact{
	{Sort: math.MinInt, Class: 5, A: 5, B: 5, Kind: 5, Text: "z", Trail: "z"},
	{Sort: -1, Class: 4, A: 5, B: 5, Kind: 5, Text: "z", Trail: "z"},
	{},
	{Trail: "\x00"},
	{Trail: "a"},
	{Trail: "b"},
	{Text: "\x00"},
	{Text: "a", Trail: "b"},
	{Text: "aa", Trail: "a"},
	{Text: "b"},
	{Text: "\x7f"},
	{Text: "\xc3\xa9"},
	{Text: "\xff"},
	{Kind: 1, Text: ""},
	{Kind: math.MaxInt, Text: ""},
	{B: 1},
	{B: 2, Kind: -1},
	{A: 1, B: -1},
	{A: 2, B: -2},
	{Class: 1, A: -1},
	{Class: 10, A: -2},
	{Class: math.MaxInt, A: math.MinInt},
	{Sort: 1, Class: -1, Text: "a"},
	{Sort: 1, Class: -1, Text: "a", Trail: "a"},
	{Sort: 2, Class: math.MinInt},
	{Sort: math.MaxInt, Class: -1},
}

// P13.1: any two facts of those that rise.
func TestLess(t *testing.T) {
	for i, x := range rising {
		for j, y := range rising {
			if fact.Less(x, y) != (i < j) {
				t.Error(x, y)
			}
		}
	}
}

// P13.1: a set rises, and has each fact once.
func TestSet(t *testing.T) {
	if l := fact.Set(nil); len(l) != 0 {
		t.Error(l)
	}
	if l := fact.Set([]fact.Fact{{}}); !slices.Equal(l, []fact.Fact{{}}) {
		t.Error(l)
	}
	falling := slices.Clone(rising)
	slices.Reverse(falling)
	for _, l := range [][]fact.Fact{rising, falling, slices.Concat(rising, falling), slices.Concat(falling, falling[3:9], falling)} {
		if got := fact.Set(l); !slices.Equal(got, rising) {
			t.Error(got)
		}
	}
}

// P13.2: one class for each place, none below 0, none twice.
func TestClasses(t *testing.T) {
	x := node(api.KName, "x")
	n := node(api.KBinary, "+", x, node(api.KCall, "", x, x))
	for _, classes := range [][]int{
		{0, 1, 2, 3, 4}, {4, 3, 2, 1, 0}, {7, 0, math.MaxInt, 1, 12}, // right ones
		nil, {0}, {0, 1, 2, 3}, {0, 1, 2, 3, 4, 5}, // too few, too many
		{0, 1, 2, 3, -1}, {-1, 1, 2, 3, 4}, {0, 1, math.MinInt, 3, 4}, {0, -1, -2, 3, 4}, // below 0
		{0, 1, 2, 3, 0}, {1, 1, 2, 3, 4}, {0, 1, 2, 4, 4}, {5, 5, 5, 5, 5}, {-1, 1, 2, 3, -1},
	} {
		holdTree(t, n, classes)
	}
	for _, classes := range [][]int{{0}, {math.MaxInt}, {-1}, nil, {0, 1}} {
		holdTree(t, api.Node{}, classes)
	}
}

// P13.2: what a node is goes into its word alone, whatever it is.
func TestWords(t *testing.T) {
	for _, n := range []api.Node{{}, {Kind: -1}, {Kind: math.MaxInt, Text: "\x00\xff", Trail: "// t"}, {Text: "a", Trail: "a"}, {Trail: " "}} {
		want := []fact.Fact{word(3, n.Kind, n.Text, n.Trail), link(3, -1, -1)}
		if got := holdTree(t, n, []int{3}); !slices.Equal(got, want) {
			t.Error(got)
		}
	}
}

// P13.3: no tree is made of these.
func TestNoTree(t *testing.T) {
	wrong(t)
	wrong(t, fact.Fact{})
	wrong(t, word(0, 1, "", ""))
	wrong(t, link(0, -1, -1))
	one := []fact.Fact{word(0, 1, "", ""), link(0, -1, -1)}
	holdFacts(t, one, node(1, ""), []int{0})
	for _, f := range []fact.Fact{word(0, 2, "", ""), word(0, 1, "a", ""), word(0, 1, "", "a")} { // a second word of a class
		wrong(t, append(one, f)...)
		wrong(t, f)
	}
	for _, f := range []fact.Fact{
		word(1, 1, "", ""), link(1, -1, -1), link(0, -1, 0), link(0, 0, -1), link(0, 0, 0), link(0, -1, 1), link(0, 1, -1), link(0, 1, 1),
		link(0, -2, -1), link(0, -1, -2), link(0, -2, -2), word(-1, 1, "", ""), link(-1, -1, -1),
		{Sort: 0, Class: 0, Kind: 1}, {Sort: 3, Class: 0, Kind: 1}, {Sort: -1}, {Sort: 3, A: -1, B: -1}, {Sort: 0, A: -1, B: -1},
		{Sort: 1, Class: 1, A: 1}, {Sort: 1, Class: 1, B: 1}, {Sort: 1, Class: 0, Kind: 1, A: -1}, {Sort: 1, Class: 0, Kind: 1, B: -1},
		{Sort: 2, A: -1, B: -1, Kind: 1}, {Sort: 2, A: -1, B: -1, Text: "a"}, {Sort: 2, A: -1, B: -1, Trail: "a"},
	} {
		wrong(t, append(one, f)...)
		wrong(t, f)
		if f.Sort == 2 {
			wrong(t, f, one[0])
		}
		wrong(t, f, one[1])
	}
	wrong(t, word(-1, 1, "", ""), link(-1, -1, -1)) // a tree's facts but for the class
}

// whole are links of a row of Kids, and of these, which have none.
func whole(class int, kids ...int) []fact.Fact {
	var l []fact.Fact
	ahead := -1
	for _, kid := range kids {
		l = append(l, link(class, ahead, kid))
		ahead = kid
	}
	return append(l, link(class, ahead, -1))
}

// words are those of so many classes.
func words(count int) []fact.Fact {
	var l []fact.Fact
	for class := range count {
		l = append(l, word(class, class, fmt.Sprint(class), ""))
	}
	return l
}

// P13.3: rings, Kids of two parents, Kids that stand twice, two roots: each link by itself is as one may be.
func TestNoTreeRows(t *testing.T) {
	for _, l := range [][]fact.Fact{
		slices.Concat(words(1), whole(0, 0)),                                        // its own Kid
		slices.Concat(words(2), whole(0, 1), whole(1, 0)),                           // a ring
		slices.Concat(words(2), whole(0), whole(1)),                                 // two roots
		slices.Concat(words(2), whole(0), whole(1, 1)),                              // a root, and a ring beside it
		slices.Concat(words(3), whole(0), whole(1, 2), whole(2, 1)),                 // the same, of two
		slices.Concat(words(3), whole(0, 1), whole(1), whole(2, 2)),                 // the same
		slices.Concat(words(4), whole(0, 1, 2), whole(1, 3), whole(2, 3), whole(3)), // two parents
		slices.Concat(words(2), whole(0, 1, 1), whole(1)),                           // twice in a row
		slices.Concat(words(3), whole(0, 1, 2, 1), whole(1), whole(2)),
		slices.Concat(words(3), whole(0, 1), whole(1), whole(2), []fact.Fact{link(0, 1, 2)}),
		slices.Concat(words(3), whole(0, 1), whole(1), whole(2), []fact.Fact{link(0, 2, -1)}),
		slices.Concat(words(3), whole(0, 1), whole(1, 2), whole(2), []fact.Fact{link(0, 2, 2)}), // a link in no row
		slices.Concat(words(2), whole(0, 1), whole(1), whole(2)),                                // a row without a word
		slices.Concat(words(2), whole(0, 1, 2), whole(1), whole(2)),
		slices.Concat(words(2), whole(0, 1), whole(1), []fact.Fact{link(0, 0, 0)}),
		slices.Concat(words(3), whole(0, 1, 2), whole(1)), // no row
		slices.Concat(words(3), whole(0, 1, 2), whole(1), []fact.Fact{link(2, 2, -1)}),
		{word(0, 1, "", ""), word(1, 1, "", ""), link(0, -1, 1), link(0, 1, 1), link(1, -1, -1)}, // a row without an end
		{word(0, 1, "", ""), word(1, 1, "", ""), link(0, 1, -1), link(0, 1, 1), link(1, -1, -1)}, // nor a front
	} {
		for range 8 {
			wrong(t, l...)
		}
	}
	l := slices.Concat(words(4), whole(2, 3, 0), whole(3, 1), whole(0), whole(1))
	want := node(2, "2", node(3, "3", node(1, "1")), node(0, "0"))
	holdFacts(t, l, want, []int{2, 3, 1, 0})
	slices.Reverse(l)
	holdFacts(t, append(l, l...), want, []int{2, 3, 1, 0}) // taken as a set
}

// P13.4: named cases; lists are taken as sets.
func TestSets(t *testing.T) {
	a, b, c, d := word(1, 2, "x", ""), word(1, 2, "y", ""), link(1, -1, 2), link(1, 2, -1)
	first, second := []fact.Fact{c, b, a, b, c}, []fact.Fact{d, c, d, b}
	for _, l := range []struct{ got, want []fact.Fact }{
		{fact.Both(first, second), []fact.Fact{b, c}},
		{fact.Minus(first, second), []fact.Fact{a}},
		{fact.Minus(second, first), []fact.Fact{d}},
		{fact.Any(first, second), []fact.Fact{a, b, c, d}},
		{fact.Both(first, nil), nil}, {fact.Both(nil, first), nil},
		{fact.Minus(first, nil), []fact.Fact{a, b, c}}, {fact.Minus(nil, first), nil},
		{fact.Any(first, nil), []fact.Fact{a, b, c}}, {fact.Any(nil, first), []fact.Fact{a, b, c}},
		{fact.Both(first, first), []fact.Fact{a, b, c}}, {fact.Minus(first, first), nil}, {fact.Any(first, first), []fact.Fact{a, b, c}},
		{fact.Both(nil, nil), nil}, {fact.Minus(nil, nil), nil}, {fact.Any(nil, nil), nil},
	} {
		if !slices.Equal(l.got, l.want) {
			t.Error(l.got, l.want)
		}
	}
}
