package class_test

import (
	"reflect"
	"slices"
	"strings"
	"testing"

	"scarf/api"
	"scarf/class"
	"scarf/match"
	"scarf/parse"
)

func node(kind int, text string, kids ...api.Node) api.Node {
	return api.Node{Kind: kind, Text: text, Kids: kids}
}

// program is the tree of these items behind "package p".
func program(t *testing.T, items ...string) api.Node {
	t.Helper()
	n, at, e := parse.Parse([]byte("package p\n" + strings.Join(items, "\n")))
	if e != api.OK {
		t.Fatal(items, at, e)
	}
	return n
}

// alike is whether both nodes are the same, told without the program's help.
func alike(a, b api.Node) bool {
	if a.Kind != b.Kind || a.Text != b.Text || a.Trail != b.Trail || len(a.Kids) != len(b.Kids) {
		return false
	}
	for i := range a.Kids {
		if !alike(a.Kids[i], b.Kids[i]) {
			return false
		}
	}
	return true
}

// side is a tree by its places, told without the program's help, and of each its node of the base, or -1.
type side struct {
	nodes   []api.Node
	parents []int
	based   []int
}

// sideOf is t by its places, with the pairs of the base and t.
func sideOf(t api.Node, pairs [][2]int) side {
	var s side
	var walk func(n api.Node, parent int)
	walk = func(n api.Node, parent int) {
		at := len(s.nodes)
		s.nodes = append(s.nodes, n)
		s.parents = append(s.parents, parent)
		s.based = append(s.based, -1)
		for _, kid := range n.Kids {
			walk(kid, at)
		}
	}
	walk(t, -1)
	for _, pair := range pairs {
		s.based[pair[1]] = pair[0]
	}
	return s
}

// turn is how far from the front x is among its parent's Kids that have no partner and are alike to x.
func (s side) turn(x int) int {
	turn := 0
	for at := range x {
		if s.parents[at] == s.parents[x] && s.based[at] < 0 && alike(s.nodes[at], s.nodes[x]) {
			turn++
		}
	}
	return turn
}

// oneClass is whether x of s and y of u are of one class, by the chapter's words.
func oneClass(s, u side, x, y int) bool {
	if s.based[x] >= 0 || u.based[y] >= 0 {
		return s.based[x] == u.based[y]
	}
	return alike(s.nodes[x], u.nodes[y]) && s.turn(x) == u.turn(y) && oneClass(s, u, s.parents[x], u.parents[y])
}

// told are the classes by the chapter's words, of trees whose roots are of one kind.
func told(b, o, t api.Node) [3][]int {
	ofO, _ := match.Of(b, o)
	ofT, _ := match.Of(b, t)
	base, ours, theirs := sideOf(b, nil), sideOf(o, ofO), sideOf(t, ofT)
	var classes [3][]int
	for at := range base.nodes {
		classes[0] = append(classes[0], at)
	}
	next := len(base.nodes)
	for _, at := range ours.based {
		if at < 0 {
			at = next
			next++
		}
		classes[1] = append(classes[1], at)
	}
	for y, at := range theirs.based {
		for x := 0; at < 0 && x < len(ours.nodes); x++ {
			if ours.based[x] < 0 && oneClass(ours, theirs, x, y) {
				at = classes[1][x]
			}
		}
		if at < 0 {
			at = next
			next++
		}
		classes[2] = append(classes[2], at)
	}
	return classes
}

// same is whether both answers are the same, nil and empty lists being one.
func same(a, b [3][]int) bool {
	return slices.Equal(a[0], b[0]) && slices.Equal(a[1], b[1]) && slices.Equal(a[2], b[2])
}

// hold asks for all that P12.1 and P12.2 say of trees of at most 20000 nodes; how many classes O and T share that B hasn't.
func hold(t *testing.T, b, o, th api.Node) int {
	t.Helper()
	got, e := class.Of(b, o, th)
	if b.Kind != o.Kind || b.Kind != th.Kind {
		if e != api.ErrPairs || !same(got, [3][]int{}) {
			t.Fatal(b, o, th, got, e)
		}
		return 0
	}
	if want := told(b, o, th); e != api.OK || !same(got, want) {
		t.Fatal(b, o, th, got, want, e)
	}
	holdKinds(t, got, b, o, th)
	if alike(o, b) && !slices.Equal(got[1], got[0]) || alike(th, b) && !slices.Equal(got[2], got[0]) || alike(o, th) && !slices.Equal(got[1], got[2]) {
		t.Fatal("of the same tree", b, o, th, got)
	}
	turned, e := class.Of(b, th, o)
	if e != api.OK {
		t.Fatal(e)
	}
	shared := 0
	for x, c := range got[1] {
		y := slices.Index(got[2], c)
		if back := slices.Index(turned[1], turned[2][x]); back != y || c < len(got[0]) != (turned[2][x] < len(got[0])) {
			t.Fatal("the other way round", b, o, th, got, turned)
		}
		if c >= len(got[0]) && y >= 0 {
			shared++
		}
	}
	return shared
}

// holdKinds asks that no two nodes of a tree have one class, that those of one class are of one kind, that the roots have 0.
func holdKinds(t *testing.T, got [3][]int, trees ...api.Node) {
	t.Helper()
	kinds := map[int]int{}
	for i, tree := range trees {
		seen := map[int]bool{}
		for at, n := range sideOf(tree, nil).nodes {
			c := got[i][at]
			kind, ok := kinds[c]
			if ok && kind != n.Kind || seen[c] || c < 0 || (c == 0) != (at == 0) {
				t.Fatal("classes", trees, got)
			}
			kinds[c], seen[c] = n.Kind, true
		}
	}
}

// want asks for just these classes of O's and T's places.
func want(t *testing.T, b, o, th api.Node, ours, theirs []int) {
	t.Helper()
	got, e := class.Of(b, o, th)
	if e != api.OK || !slices.Equal(got[1], ours) || !slices.Equal(got[2], theirs) {
		t.Error(got, ours, theirs, e)
	}
	hold(t, b, o, th)
}

// P12.1: the chapter's example.
func TestExample(t *testing.T) {
	b, one, two := program(t), program(t, "const a = 1"), program(t, "const a = 2")
	want(t, b, one, one, []int{0, 1, 2, 3}, []int{0, 1, 2, 3})
	want(t, b, one, two, []int{0, 1, 2, 3}, []int{0, 1, 4, 5})
	want(t, b, two, one, []int{0, 1, 2, 3}, []int{0, 1, 4, 5})
	if got, e := class.Of(b, one, two); e != api.OK || !slices.Equal(got[0], []int{0, 1}) {
		t.Error(got, e)
	}
}

// full is a tree of so many nodes.
func full(nodes int) api.Node {
	return node(api.KFile, "", make([]api.Node, nodes-1)...)
}

// wrong asks for that error and nothing beside it.
func wrong(t *testing.T, want api.Errno, b, o, th api.Node) {
	t.Helper()
	if got, e := class.Of(b, o, th); e != want || !reflect.DeepEqual(got, [3][]int{}) {
		t.Error(len(got[0]), len(got[1]), len(got[2]), e, want)
	}
}

// P12.1: ErrLong, if one has more than 20000 nodes, whatever the roots' kinds are.
func TestLong(t *testing.T) {
	small, most, more := full(3), full(api.MaxNodes), full(api.MaxNodes+1)
	for _, l := range [][3]api.Node{{more, small, small}, {small, more, small}, {small, small, more}, {more, more, more}, {more, more, small}, {small, more, more}} {
		wrong(t, api.ErrLong, l[0], l[1], l[2])
		for i := range l {
			unlike := l
			unlike[i].Kind = api.KBlock
			wrong(t, api.ErrLong, unlike[0], unlike[1], unlike[2])
		}
	}
	for _, l := range [][3]api.Node{{most, small, small}, {small, most, small}, {small, small, most}, {most, most, most}} {
		got, e := class.Of(l[0], l[1], l[2])
		if e != api.OK {
			t.Fatal(e)
		}
		for i, tree := range l {
			if len(got[i]) != len(tree.Kids)+1 {
				t.Error(i, len(got[i]), len(tree.Kids))
			}
		}
		for i := range l {
			unlike := l
			unlike[i].Kind = api.KBlock
			wrong(t, api.ErrPairs, unlike[0], unlike[1], unlike[2])
		}
	}
}

// P12.1: ErrPairs, if the roots aren't all of one kind, wherever the other one stands.
func TestRoots(t *testing.T) {
	file, block, zero := node(api.KFile, ""), node(api.KBlock, ""), api.Node{}
	wrong(t, api.ErrPairs, block, file, file)
	wrong(t, api.ErrPairs, file, block, file)
	wrong(t, api.ErrPairs, file, file, block)
	wrong(t, api.ErrPairs, file, block, block)
	wrong(t, api.ErrPairs, file, block, zero)
	wrong(t, api.ErrPairs, zero, zero, file)
	wrong(t, api.ErrPairs, zero, file, zero)
	wrong(t, api.ErrPairs, file, zero, zero)
	wrong(t, api.ErrPairs, program(t, "const a = 1"), program(t).Kids[0], program(t))
	wrong(t, api.ErrPairs, program(t, "const a = 1"), program(t), program(t).Kids[0])
}

// P12.1: trees of one node, the zero Node; of one kind they are paired, whatever their texts.
func TestOneNode(t *testing.T) {
	want(t, api.Node{}, api.Node{}, api.Node{}, []int{0}, []int{0})
	want(t, node(9, "a"), node(9, "b"), api.Node{Kind: 9, Trail: "c"}, []int{0}, []int{0})
	want(t, node(-1, ""), node(-1, "", node(3, "x")), node(-1, "", node(4, "x")), []int{0, 1}, []int{0, 2})
	want(t, node(-1, ""), node(-1, "", node(3, "x")), node(-1, "", node(3, "x")), []int{0, 1}, []int{0, 1})
	want(t, node(-1, "", api.Node{}), node(-1, ""), node(-1, ""), []int{0}, []int{0})
	want(t, api.Node{}, node(0, "", api.Node{}), api.Node{}, []int{0, 1}, []int{0})
}

// P12.2: three times the same tree; O as B, T as B, O as T.
func TestSameTrees(t *testing.T) {
	a := program(t, "const a = 1", "func f() { x++; y(z) }")
	c := program(t, "func f() { y(z) ; x++; x++ }", "const a = 1", "const a = 1", "var b = 2")
	for _, l := range [][3]api.Node{{a, a, a}, {a, a, c}, {a, c, a}, {a, c, c}, {c, c, a}, {c, a, a}} {
		hold(t, l[0], l[1], l[2])
	}
	if hold(t, a, c, c) == 0 || hold(t, a, a, c) != 0 {
		t.Error("shared")
	}
}
