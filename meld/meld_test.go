package meld_test

import (
	"maps"
	"slices"
	"strings"
	"testing"

	"scarf/api"
	"scarf/class"
	"scarf/fact"
	"scarf/meld"
	"scarf/parse"
	"scarf/tree"
)

// node is one.
func node(kind int, text string, kids ...api.Node) api.Node {
	return api.Node{Kind: kind, Text: text, Kids: kids}
}

// word is a fact that is one.
func word(class, kind int, text, trail string) fact.Fact {
	return fact.Fact{Sort: 1, Class: class, Kind: kind, Text: text, Trail: trail}
}

// row are the links of a class's Kids.
func row(class int, kids ...int) []fact.Fact {
	var l []fact.Fact
	ahead := -1
	for _, kid := range append(kids, -1) {
		l = append(l, fact.Fact{Sort: 2, Class: class, A: ahead, B: kid})
		ahead = kid
	}
	return l
}

// read is the tree of a program.
func read(t *testing.T, text string) api.Node {
	t.Helper()
	n, at, e := parse.Parse([]byte(text))
	if e != api.OK {
		t.Fatal(text, at, e)
	}
	return n
}

// program is the tree of these items behind "package p".
func program(t *testing.T, items ...string) api.Node {
	t.Helper()
	return read(t, "package p\n"+strings.Join(items, "\n"))
}

// facts are a tree's by classes, in no order, told without the program's help; next is the place behind it.
func facts(t api.Node, classes []int, at int) (l []fact.Fact, next int) {
	l = []fact.Fact{word(classes[at], t.Kind, t.Text, t.Trail)}
	next = at + 1
	var kids []int
	for _, kid := range t.Kids {
		kids = append(kids, classes[next])
		var below []fact.Fact
		below, next = facts(kid, classes, next)
		l = append(l, below...)
	}
	return append(l, row(classes[at], kids...)...), next
}

// met is the meld by the chapter's words.
func met(b, o, t []fact.Fact) map[fact.Fact]bool {
	inB, inO, inT := map[fact.Fact]bool{}, map[fact.Fact]bool{}, map[fact.Fact]bool{}
	for _, f := range b {
		inB[f] = true
	}
	for _, f := range o {
		inO[f] = true
	}
	for _, f := range t {
		inT[f] = true
	}
	met := map[fact.Fact]bool{}
	for _, f := range slices.Concat(o, t) {
		if inO[f] && inT[f] || inO[f] && !inB[f] || inT[f] && !inB[f] {
			met[f] = true
		}
	}
	return met
}

// holdOf asks for the meld, as a set, and for the same one with both sides the other way round.
func holdOf(t *testing.T, b, o, th []fact.Fact) []fact.Fact {
	t.Helper()
	got, want := meld.Of(b, o, th), met(b, o, th)
	for i := range got {
		if i > 0 && !fact.Less(got[i-1], got[i]) {
			t.Fatal("no set", b, o, th, got)
		}
	}
	if len(got) != len(want) || slices.ContainsFunc(got, func(f fact.Fact) bool { return !want[f] }) {
		t.Fatal(b, o, th, got, want)
	}
	if turned := meld.Of(b, th, o); !slices.Equal(turned, got) {
		t.Fatal("the other way round", b, o, th, got, turned)
	}
	return got
}

// holdSound asks for that tree of facts.
func holdSound(t *testing.T, l []fact.Fact, want api.Node) {
	t.Helper()
	if n, ok := meld.Sound(l); !ok || !tree.Same(n, want) {
		t.Fatal(l, n, ok, want)
	}
}

// unsound asks for no tree of facts.
func unsound(t *testing.T, l []fact.Fact) {
	t.Helper()
	if n, ok := meld.Sound(l); ok || !tree.Same(n, api.Node{}) || n.Kids != nil {
		t.Fatal(l, n, ok)
	}
}

// hold asks for all that P14.2 says of three trees of at most 20000 nodes, and that it is so with both sides the other way round; the tree, and whether there is one.
func hold(t *testing.T, b, o, th api.Node) (api.Node, bool) {
	t.Helper()
	n, ok, e := meld.Merge(b, o, th)
	if turned, is, other := meld.Merge(b, th, o); is != ok || other != e || !tree.Same(turned, n) {
		t.Fatal("the other way round", b, o, th, n, ok, e, turned, is, other)
	}
	classes, err := class.Of(b, o, th)
	if e != err {
		t.Fatal(b, o, th, e, err)
	}
	if e != api.OK || !ok {
		if ok || !tree.Same(n, api.Node{}) || n.Kids != nil {
			t.Fatal("no tree", b, o, th, n, ok, e)
		}
	}
	if e != api.OK {
		return n, false
	}
	ofB, _ := facts(b, classes[0], 0)
	ofO, _ := facts(o, classes[1], 0)
	ofT, _ := facts(th, classes[2], 0)
	want, places, err := fact.Tree(slices.Collect(maps.Keys(met(ofB, ofO, ofT))))
	if sound := err == api.OK && tree.Right(want); sound != ok || sound && !tree.Same(n, want) {
		t.Fatal(b, o, th, n, ok, want, places, err)
	}
	return n, ok
}

// merges asks for that merge of three programs, and of them with O and T the other way round.
func merges(t *testing.T, b, o, th, want api.Node) {
	t.Helper()
	if n, ok := hold(t, b, o, th); !ok || !tree.Same(n, want) {
		t.Error(b, o, th, n, ok)
	}
}

// clashes asks that three trees have no merge.
func clashes(t *testing.T, b, o, th api.Node) {
	t.Helper()
	if n, ok := hold(t, b, o, th); ok {
		t.Error(b, o, th, n)
	}
}

// P14.2: the chapter's example.
func TestExample(t *testing.T) {
	b := program(t, "const a = 1; const b = 2")
	o := program(t, "const a = 3; const b = 2")
	merges(t, b, o, program(t, "const a = 1; const b = 4"), program(t, "const a = 3; const b = 4"))
	a4 := program(t, "const a = 4; const b = 2")
	clashes(t, b, o, a4)
	clashes(t, b, program(t, "const b = 2"), a4)

	// Which facts there are when both changed a: two words of one class, all else as it was.
	classes, _ := class.Of(b, o, a4)
	ofB, _ := fact.Of(b, classes[0])
	ofO, _ := fact.Of(o, classes[1])
	ofT, _ := fact.Of(a4, classes[2])
	l := holdOf(t, ofB, ofO, ofT)
	if len(l) != len(ofB)+1 || len(fact.Minus(l, ofB)) != 2 || !slices.Contains(l, word(3, api.KInt, "3", "")) || !slices.Contains(l, word(3, api.KInt, "4", "")) {
		t.Error(l)
	}
	unsound(t, l)
	holdSound(t, fact.Minus(l, []fact.Fact{word(3, api.KInt, "4", "")}), o)
}

// P14.1: of one fact each way of standing in the three lists.
func TestOfOne(t *testing.T) {
	f := []fact.Fact{word(3, 9, "x", "")}
	for _, c := range []struct {
		b, o, t []fact.Fact
		in      bool
	}{
		{nil, nil, nil, false},
		{f, nil, nil, false}, // removed by both
		{nil, f, nil, true},  // added by ours
		{nil, nil, f, true},  // added by theirs
		{f, f, nil, false},   // removed by theirs
		{f, nil, f, false},   // removed by ours
		{nil, f, f, true},    // added by both
		{f, f, f, true},      // kept
	} {
		if got := holdOf(t, c.b, c.o, c.t); c.in != slices.Equal(got, f) || c.in != (len(got) == 1) {
			t.Error(c, got)
		}
	}
}

// P14.1: lists are taken as sets: in any turn, with what stands twice; facts that differ in one part are two.
func TestOfLists(t *testing.T) {
	a, b, c, d := word(1, 2, "x", ""), word(1, 2, "x", "t"), word(1, 2, "y", ""), row(1, 2)[0]
	if got := holdOf(t, []fact.Fact{c, a, a}, []fact.Fact{d, b, a, d, b}, []fact.Fact{c, a, d, c}); !slices.Equal(got, []fact.Fact{a, b, d}) {
		t.Error(got)
	}
	if got := holdOf(t, nil, []fact.Fact{d, c, b, a, d, c}, nil); !slices.Equal(got, []fact.Fact{a, b, c, d}) {
		t.Error(got)
	}
	if got := holdOf(t, []fact.Fact{a, b, a}, []fact.Fact{a}, []fact.Fact{b, b}); len(got) != 0 {
		t.Error(got)
	}
	for _, other := range []fact.Fact{
		{Sort: 2, Class: 1, Kind: 2, Text: "x"}, {Sort: 1, Class: 2, Kind: 2, Text: "x"}, {Sort: 1, Class: 1, A: 1, Kind: 2, Text: "x"},
		{Sort: 1, Class: 1, B: 1, Kind: 2, Text: "x"}, {Sort: 1, Class: 1, Kind: 3, Text: "x"}, {Sort: 1, Class: 1, Kind: 2, Text: "y"}, b,
	} {
		if got := holdOf(t, []fact.Fact{a}, []fact.Fact{other}, []fact.Fact{a}); !slices.Equal(got, []fact.Fact{other}) {
			t.Error(other, got)
		}
	}
}

// P14.2: ErrLong, if one tree has more than 20000 nodes, whatever the roots' kinds are; ErrPairs, if these aren't all of one kind.
func TestErrors(t *testing.T) {
	full := func(nodes int) api.Node {
		kids := []api.Node{node(api.KPackage, "p")}
		for len(kids) < nodes-1 {
			kids = append(kids, node(api.KNote, "//"))
		}
		return node(api.KFile, "", kids...)
	}
	wrong := func(want api.Errno, b, o, th api.Node) {
		t.Helper()
		if n, ok, e := meld.Merge(b, o, th); e != want || ok || !tree.Same(n, api.Node{}) || n.Kids != nil {
			t.Error(tree.Size(n), ok, e, want)
		}
	}
	small, most, more := program(t, "const a = 1"), full(api.MaxNodes), full(api.MaxNodes+1)
	for _, l := range [][3]api.Node{{more, small, small}, {small, more, small}, {small, small, more}, {more, more, more}} {
		wrong(api.ErrLong, l[0], l[1], l[2])
		for i := range l {
			unlike := l
			unlike[i].Kind = api.KBlock
			wrong(api.ErrLong, unlike[0], unlike[1], unlike[2])
		}
	}
	for _, l := range [][3]api.Node{{most, small, small}, {small, most, small}, {small, small, most}, {small, small, small}, {{}, {}, {}}} {
		for i := range l {
			unlike := l
			unlike[i].Kind = api.KBlock
			wrong(api.ErrPairs, unlike[0], unlike[1], unlike[2])
		}
	}
	for _, l := range [][3]api.Node{{most, small, most}, {small, small, most}, {small, most, most}, {most, most, most}} {
		n, ok, e := meld.Merge(l[0], l[1], l[2])
		if e != api.OK || !ok || !tree.Same(n, l[2]) && !tree.Same(n, l[1]) {
			t.Error(tree.Size(n), ok, e)
		}
	}
}

// P14.2: three trees of one kind that isn't a file's: no error, and no merge.
func TestNoFile(t *testing.T) {
	f := program(t, "func f() { x++; y() }")
	for _, n := range append(slices.Clone(f.Kids), f.Kids[1].Kids[3], node(api.KName, "x"), node(api.KFile, ""), api.Node{}) {
		if n, ok, e := meld.Merge(n, n, n); ok || e != api.OK || !tree.Same(n, api.Node{}) {
			t.Error(n, ok, e)
		}
		clashes(t, n, n, n)
	}
}

// P14.2: that the merge is Right is all that is asked; the three trees need not be.
func TestNotRight(t *testing.T) {
	right, none := program(t, "const a = 1", "const b = 2", "const c = 3"), node(api.KFile, "")
	merges(t, none, right, right, right)
	merges(t, none, none, right, right)
	merges(t, node(api.KFile, "odd", node(77, "")), right, right, right)
	clashes(t, right, none, none)
	clashes(t, right, none, right)
	clashes(t, right, right, none)

	with := func(a, c string) api.Node {
		n := tree.Copy(right)
		n.Kids[1].Kids[0].Text, n.Kids[3].Kids[0].Text = a, c
		return n
	}
	merges(t, with("", ""), with("1", ""), with("", "3"), right)
	clashes(t, with("", ""), with("1", ""), with("1", ""))
	clashes(t, with("", ""), with("", ""), with("", "3"))
	clashes(t, with("1", "3"), with("", "3"), with("1", "4"))
	clashes(t, with("1", "3"), with("1", ""), with("1", ""))
}
