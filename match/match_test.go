package match_test

import (
	"reflect"
	"strings"
	"testing"

	"scarf/api"
	"scarf/match"
	"scarf/parse"
	"scarf/tree"
)

func node(kind int, text string, kids ...api.Node) api.Node {
	return api.Node{Kind: kind, Text: text, Kids: kids}
}

// program is the tree of these items behind "package p".
func program(t *testing.T, items ...string) api.Node {
	t.Helper()
	n, at, e := parse.Parse([]byte("package p\n" + strings.Join(items, "\n")))
	if e != api.OK {
		t.Fatal(items, at, e)
	}
	return n
}

// alike is whether both nodes are the same, told without the program's help.
func alike(a, b api.Node) bool {
	if a.Kind != b.Kind || a.Text != b.Text || a.Trail != b.Trail || len(a.Kids) != len(b.Kids) {
		return false
	}
	for i := range a.Kids {
		if !alike(a.Kids[i], b.Kids[i]) {
			return false
		}
	}
	return true
}

// places are t's nodes, each ahead of its Kids, told without the program's help.
func places(t api.Node) []api.Node {
	var l []api.Node
	var walk func(n api.Node)
	walk = func(n api.Node) {
		l = append(l, n)
		for _, kid := range n.Kids {
			walk(kid)
		}
	}
	walk(t)
	return l
}

// isMatch is whether l is a match of a and b by the chapter's words, with the roots as a pair, rising by the first place.
func isMatch(a, b api.Node, l [][2]int) bool {
	of, with := places(a), places(b)
	first, second := map[int]bool{}, map[int]bool{}
	for i, pair := range l {
		x, y := pair[0], pair[1]
		if x < 0 || y < 0 || x >= len(of) || y >= len(with) || of[x].Kind != with[y].Kind {
			return false
		}
		if first[x] || second[y] || i > 0 && l[i-1][0] > x {
			return false
		}
		first[x], second[y] = true, true
	}
	for _, pair := range l {
		if pair[0] == 0 && pair[1] == 0 {
			return true
		}
	}
	return false
}

// itemKey is an item's key, told as the chapter says it: the kind, the Text, the receiver's type's tree; none of others.
type itemKey struct {
	kind     int
	text     string
	method   bool
	receiver api.Node
}

func keyOf(item api.Node) (itemKey, bool) {
	k := itemKey{kind: item.Kind}
	switch item.Kind {
	case api.KFunc:
		if k.method = item.Kids[0].Kind == api.KParam; k.method {
			k.receiver = item.Kids[0].Kids[0]
		}
		k.text = item.Text
	case api.KConst, api.KVar, api.KType:
		k.text = item.Text
	case api.KPackage:
	default:
		return itemKey{}, false
	}
	return k, true
}

// itemsWith are the places, in the whole tree, of a file's items that have a key.
func itemsWith(t api.Node, k itemKey) []int {
	var l []int
	at := 1
	for _, item := range t.Kids {
		if other, ok := keyOf(item); ok && other.kind == k.kind && other.text == k.text && other.method == k.method && alike(other.receiver, k.receiver) {
			l = append(l, at)
		}
		at += len(places(item))
	}
	return l
}

// hold asks for all that P11.1 says of a match of a and b, of at most 20000 nodes; how many anchors there are.
func hold(t *testing.T, a, b api.Node) int {
	t.Helper()
	l, e := match.Of(a, b)
	if e != api.OK {
		t.Fatal(a, b, e)
	}
	if a.Kind != b.Kind {
		if len(l) > 0 {
			t.Fatal(a, b, l)
		}
		return 0
	}
	if !isMatch(a, b, l) || !match.Right(a, b, l) {
		t.Fatal("no match", a, b, l)
	}
	partner := map[int]int{}
	for _, pair := range l {
		partner[pair[0]] = pair[1] + 1
	}
	of, with := places(a), places(b)
	if alike(a, b) {
		holdBelow(t, partner, 0, 0, len(of))
	}
	if !tree.Right(a) || !tree.Right(b) {
		return 0
	}
	anchors := 0
	for _, item := range a.Kids {
		k, ok := keyOf(item)
		xs, ys := itemsWith(a, k), itemsWith(b, k)
		if !ok || len(xs) != 1 || len(ys) != 1 {
			continue
		}
		anchors++
		count := 1
		if alike(of[xs[0]], with[ys[0]]) {
			count = len(places(item))
		}
		holdBelow(t, partner, xs[0], ys[0], count)
	}
	return anchors
}

// holdBelow asks for so many pairs, place by place from x and y on.
func holdBelow(t *testing.T, partner map[int]int, x, y, count int) {
	t.Helper()
	for i := range count {
		if partner[x+i] != y+i+1 {
			t.Fatal("no pair", x+i, y+i, partner)
		}
	}
}

// want asks for just these pairs.
func want(t *testing.T, a, b api.Node, l ...[2]int) {
	t.Helper()
	got, e := match.Of(a, b)
	if e != api.OK || len(got) != len(l) || len(l) > 0 && !reflect.DeepEqual(got, l) {
		t.Error(got, l, e)
	}
	hold(t, a, b)
}

// P11.1: the chapter's example.
func TestExample(t *testing.T) {
	a := program(t, "const a = 1", "const b = 2")
	b := program(t, "const b = 3", "const a = 1")
	l, e := match.Of(a, b)
	has := map[[2]int]bool{}
	for _, pair := range l {
		has[pair] = true
	}
	if e != api.OK || !has[[2]int{0, 0}] || !has[[2]int{1, 1}] || !has[[2]int{2, 4}] || !has[[2]int{3, 5}] || !has[[2]int{4, 2}] {
		t.Error(l, e)
	}
	if hold(t, a, b) != 3 {
		t.Error("anchors")
	}
}

// full is a tree of so many nodes.
func full(nodes int) api.Node {
	return node(api.KFile, "", make([]api.Node, nodes-1)...)
}

// P11.1: ErrLong, if one of both has more than 20000 nodes, whatever the roots are.
func TestLong(t *testing.T) {
	if api.MaxNodes != 20000 {
		t.Fatal(api.MaxNodes)
	}
	most, more := full(20000), full(20001)
	other := node(api.KBlock, "")
	for _, c := range []struct {
		a, b api.Node
		e    api.Errno
		all  int
	}{
		{most, most, api.OK, 20000}, {more, more, api.ErrLong, 0},
		{most, more, api.ErrLong, 0}, {more, most, api.ErrLong, 0},
		{more, node(api.KFile, ""), api.ErrLong, 0}, {node(api.KFile, ""), more, api.ErrLong, 0},
		{more, other, api.ErrLong, 0}, {other, more, api.ErrLong, 0},
		{most, other, api.OK, 0}, {other, most, api.OK, 0}, {full(1 << 20), most, api.ErrLong, 0},
	} {
		l, e := match.Of(c.a, c.b)
		if e != c.e || len(l) < c.all || c.all == 0 && len(l) > 0 {
			t.Error(len(c.a.Kids), len(c.b.Kids), len(l), e)
		}
	}
}

// P11.1: deep trees of 20000 nodes, and of one more, on either side.
func TestLongDeep(t *testing.T) {
	most := api.Node{}
	for range 19999 {
		most = node(0, "", most)
	}
	more := node(0, "", most)
	hold(t, most, most)
	for _, pair := range [][2]api.Node{{more, most}, {most, more}, {more, more}} {
		if l, e := match.Of(pair[0], pair[1]); len(l) > 0 || e != api.ErrLong {
			t.Error(len(l), e)
		}
	}
}

// P11.1: one node; the zero Node; roots of unlike kinds.
func TestRoots(t *testing.T) {
	zero := api.Node{}
	name := node(api.KName, "x")
	want(t, zero, zero, [2]int{0, 0})
	want(t, name, name, [2]int{0, 0})
	want(t, name, node(api.KName, "y"), [2]int{0, 0})
	want(t, zero, name)
	want(t, name, zero)
	want(t, node(-5, ""), node(-5, "x"), [2]int{0, 0})
	want(t, node(-5, ""), node(5, ""))
	want(t, node(1<<62, "\xff"), node(1<<62, ""), [2]int{0, 0})
	want(t, api.Node{Kids: []api.Node{}}, api.Node{Kids: nil}, [2]int{0, 0})
	want(t, api.Node{Kind: 9, Trail: "x"}, name, [2]int{0, 0})
	a := program(t, "const a = 1")
	want(t, a, a.Kids[0])
	want(t, a.Kids[1], a)
	want(t, node(1, "", name), node(2, "", name))
}

// P11.1: the same trees, place by place: also where parts stand twice, and where they aren't programs'.
func TestSame(t *testing.T) {
	x := node(api.KName, "x")
	for _, n := range []api.Node{
		{}, x, node(0, "", api.Node{}, api.Node{}, node(0, "", api.Node{})), node(api.KFile, "", x, x, x),
		node(-1, "\x00", node(-1, "\x00", node(-1, "\x00")), node(-1, "\x00")),
		program(t), program(t, "const a = 1", "const a = 1", "// n", "// n", "func f() { x++; x++ }", "func f() { x++; x++ }"),
		program(t, `import "a"`, `import "a"`, "const b = x + x", "const a = x + x", "const b = x + x"),
	} {
		hold(t, n, n)
		hold(t, n, tree.Copy(n))
		again := node(api.KFile, "", n, n)
		hold(t, again, tree.Copy(again))
	}
}

// P11.1: what is paired is of one kind, each place in one pair at most: where all is alike, and where nothing is.
func TestUnlike(t *testing.T) {
	x, y := node(api.KName, "x"), node(api.KName, "y")
	seven := node(0, "", x, y, x, y, x, y, x)
	hold(t, seven, node(0, "", x))
	hold(t, node(0, "", x), seven)
	hold(t, seven, node(0, "", y, seven, y))
	hold(t, node(0, "", seven, seven), seven)
	hold(t, node(0, "", node(1, "", x), node(2, "", y)), node(0, "", node(2, "", x), node(1, "", y)))
	hold(t, node(0, "", node(1, "", x, x), node(1, "", y)), node(0, "", node(3, "", node(1, "", y), node(1, "", x, x)), x))
}
