package shape_test

import (
	"reflect"
	"strings"
	"testing"

	"scarf/api"
	"scarf/shape"
	"scarf/tree"
)

func node(kind int, text string, kids ...api.Node) api.Node {
	return api.Node{Kind: kind, Text: text, Kids: kids}
}

func trail(s string, n api.Node) api.Node {
	n.Trail = s
	return n
}

// alike is whether both nodes are the same, told without the program's help.
func alike(a, b api.Node) bool {
	if a.Kind != b.Kind || a.Text != b.Text || a.Trail != b.Trail || len(a.Kids) != len(b.Kids) {
		return false
	}
	for i := range a.Kids {
		if !alike(a.Kids[i], b.Kids[i]) {
			return false
		}
	}
	return true
}

// sameInts is whether both lists are the same; one without elements may be nil.
func sameInts(a, b []int) bool {
	return len(a) == 0 && len(b) == 0 || reflect.DeepEqual(a, b)
}

func sameRows(a, b [][]int) bool {
	if len(a) != len(b) {
		return false
	}
	for i := range a {
		if !sameInts(a[i], b[i]) {
			return false
		}
	}
	return true
}

// plain is t's Plan as the chapter's words tell it; it goes through t once for each row.
func plain(t api.Node) shape.Plan {
	var p shape.Plan
	var count func(n api.Node) int
	count = func(n api.Node) int {
		all := 1
		for _, kid := range n.Kids {
			all += count(kid)
		}
		return all
	}
	var walk func(n api.Node, parent, at int)
	walk = func(n api.Node, parent, at int) {
		p.Nodes, p.Parent, p.Size = append(p.Nodes, n), append(p.Parent, parent), append(p.Size, count(n))
		var kids []int
		next := at + 1
		for _, kid := range n.Kids {
			kids = append(kids, next)
			next += count(kid)
		}
		p.Kids = append(p.Kids, kids)
		for i, kid := range n.Kids {
			walk(kid, at, kids[i])
		}
	}
	walk(t, -1, 0)
	return p
}

// samePlan is whether both are the same, row by row.
func samePlan(a, b shape.Plan) bool {
	if len(a.Nodes) != len(b.Nodes) || !sameInts(a.Parent, b.Parent) || !sameInts(a.Size, b.Size) || !sameRows(a.Kids, b.Kids) {
		return false
	}
	for i := range a.Nodes {
		if !alike(a.Nodes[i], b.Nodes[i]) {
			return false
		}
	}
	return true
}

// holdOf asks for P10.1 and P10.3 of one tree.
func holdOf(t *testing.T, n api.Node) {
	t.Helper()
	p, want := shape.Of(n), plain(n)
	if !samePlan(p, want) {
		t.Fatalf("Of %v: %v, not %v", n, p, want)
	}
	if !alike(shape.Tree(p), n) {
		t.Fatalf("Tree %v: %v", n, shape.Tree(p))
	}
}

// plainMarks is the trees' marks: each node is held against all that came ahead of it.
func plainMarks(l ...api.Node) [][]int {
	var first []api.Node
	marks := [][]int{}
	for _, t := range l {
		var row []int
		for _, n := range plain(t).Nodes {
			mark := 0
			for mark < len(first) && !alike(first[mark], n) {
				mark++
			}
			if mark == len(first) {
				first = append(first, n)
			}
			row = append(row, mark)
		}
		marks = append(marks, row)
	}
	return marks
}

// holdMarks asks for P10.2 of some trees.
func holdMarks(t *testing.T, l ...api.Node) {
	t.Helper()
	if marks, want := shape.Marks(l...), plainMarks(l...); !sameRows(marks, want) {
		t.Fatalf("Marks %v: %v, not %v", l, marks, want)
	}
}

// The chapter's example: P10.1 and P10.2.
func TestExample(t *testing.T) {
	x := node(api.KName, "x")
	n := node(api.KBinary, "+", x, x)
	p := shape.Of(n)
	if len(p.Nodes) != 3 || !alike(p.Nodes[0], n) || !alike(p.Nodes[1], x) || !alike(p.Nodes[2], x) {
		t.Error(p.Nodes)
	}
	if !sameInts(p.Parent, []int{-1, 0, 0}) || !sameInts(p.Size, []int{3, 1, 1}) || !sameRows(p.Kids, [][]int{{1, 2}, nil, nil}) {
		t.Error(p)
	}
	if marks := shape.Marks(n); !sameRows(marks, [][]int{{0, 1, 1}}) {
		t.Error(marks)
	}
}

// P10.1, P10.3: a tree of one node, the zero Node, trees that are no program's.
func TestOfSmall(t *testing.T) {
	x := node(api.KName, "x")
	for _, n := range []api.Node{
		{}, x, {Kids: []api.Node{}}, {Kind: -1}, {Kind: 1 << 62, Text: "\x00\xff", Trail: "\n"},
		{Kids: []api.Node{{}}}, {Kids: []api.Node{{}, {}}}, {Kids: []api.Node{{Kids: []api.Node{}}, {Kids: []api.Node{{}}}}},
		node(0, "a", node(0, "b", node(0, "c"), node(0, "d")), node(0, "e"), node(0, "f", node(0, "g", node(0, "h")))),
		trail("t", node(api.KNote, "// n", x, trail("// u", x))),
	} {
		holdOf(t, n)
	}
	if p := shape.Of(api.Node{}); len(p.Nodes) != 1 || !sameInts(p.Parent, []int{-1}) || !sameInts(p.Size, []int{1}) || !sameRows(p.Kids, [][]int{nil}) {
		t.Error(p)
	}
}

// P10.1: the places are those of chapter 5's All, the nodes' sizes those of its Size.
func TestOfByTree(t *testing.T) {
	some(300, func(n api.Node) {
		p := shape.Of(n)
		places := 0
		for place, x := range tree.All(n) {
			if place >= len(p.Nodes) || !tree.Same(p.Nodes[place], x) || p.Size[place] != tree.Size(x) {
				t.Fatal(place, n)
			}
			places++
		}
		if places != len(p.Nodes) {
			t.Fatal(places, n)
		}
	})
}

// P10.2: nodes that differ in one thing alone aren't alike.
func TestMarksUnlike(t *testing.T) {
	x, y := node(1, "x"), node(1, "y")
	deep := func(n api.Node) api.Node {
		for range 20 {
			n = node(2, "", x, node(3, "n", n, y))
		}
		return n
	}
	for i, l := range [][]api.Node{
		{node(1, "a"), node(2, "a")}, {node(1, "a"), node(-1, "a")}, {node(1, ""), node(1<<32+1, "")},
		{node(1, "a"), node(1, "b")}, {node(1, "a"), node(1, "A")}, {node(1, ""), node(1, "\x00")}, {node(1, ""), node(1, " ")},
		{node(1, "a"), trail("b", node(1, "a"))}, {trail("a", node(1, "")), node(1, "a")}, {trail("b", node(1, "a")), trail("a", node(1, "b"))},
		{trail("b", node(1, "a")), node(1, "ab")}, {trail("bc", node(1, "a")), trail("c", node(1, "ab"))}, {trail("", node(1, "ab")), trail("ab", node(1, ""))},
		{node(2, "", x, y), node(2, "", y, x)}, {node(2, "", x), node(2, "", x, x)}, {node(2, ""), node(2, "", x)}, {node(2, "", x, x), node(2, "", node(1, "x", x))},
		{deep(x), deep(y)}, {deep(x), deep(trail("t", x))}, {deep(x), deep(node(1, "x", x))}, {deep(x), deep(node(2, "x"))},
	} {
		marks := shape.Marks(l...)
		if len(marks) != 2 || len(marks[0]) == 0 || len(marks[1]) == 0 || marks[0][0] != 0 || marks[1][0] == 0 {
			t.Error(i, marks)
		}
		if n := node(5, "", l...); shape.Marks(n)[0][1] == shape.Marks(n)[0][1+tree.Size(l[0])] {
			t.Error(i, "in one tree")
		}
		holdMarks(t, l...)
		holdMarks(t, l[1], l[0], node(5, "", l...))
	}
}

// P10.2: Kids nil and Kids empty are the same.
func TestMarksNoKids(t *testing.T) {
	n := api.Node{Kids: []api.Node{{Kind: 1}, {Kind: 1, Kids: []api.Node{}}}}
	if marks := shape.Marks(n, api.Node{Kind: 1, Kids: []api.Node{}}); !sameRows(marks, [][]int{{0, 1, 1}, {1}}) {
		t.Error(marks)
	}
}

// P10.2: where one text ends and the next begins, and where the numbers do: no two of these nodes are alike.
func TestMarksTexts(t *testing.T) {
	texts := []string{""}
	for from, to := 0, 1; to < 60; {
		for _, s := range texts[from:to] {
			for _, sign := range []string{"1", "0", " ", "-"} {
				texts = append(texts, s+sign)
			}
		}
		from, to = to, len(texts)
	}
	var l []api.Node
	for _, kind := range []int{0, 1, -1, 10} {
		for _, text := range texts {
			for _, end := range texts[:21] {
				l = append(l, trail(end, node(kind, text)))
			}
		}
	}
	for i, row := range shape.Marks(l...) {
		if !sameInts(row, []int{i}) {
			t.Fatal(i, row, l[i])
		}
	}
}

// P10.2: the same of nodes with Kids.
func TestMarksTextsAndKids(t *testing.T) {
	a, b := node(1, ""), node(1, "1")
	var l []api.Node
	for _, kind := range []int{0, 1, 10} {
		for _, text := range []string{"", "1", " ", "1 ", " 1", "0 0 ", "1 0 1 "} {
			for _, end := range []string{"", "0", " ", "0 ", " 0", "1 0 ", "0 1 0 "} {
				for _, kids := range [][]api.Node{nil, {a}, {b}, {a, a}, {a, b}, {b, a}, {a, a, a}, {node(1, "", a)}, {node(1, "", a), a}} {
					l = append(l, trail(end, node(kind, text, kids...)))
				}
			}
		}
	}
	// Many numbers ahead, so that they are of one to four digits.
	seen := map[int]int{}
	for i, row := range shape.Marks(l...) {
		if of, ok := seen[row[0]]; ok && !alike(l[i], l[of]) {
			t.Fatal(l[i], l[of], row)
		}
		seen[row[0]] = i
	}
	if want := len(l); len(seen) != want {
		t.Fatal(len(seen), want)
	}
}

// P10.2: Marks of no tree, of one, of many, of the same tree twice.
func TestMarksLists(t *testing.T) {
	if marks := shape.Marks(); len(marks) != 0 {
		t.Error(marks)
	}
	if marks := shape.Marks(api.Node{}); !sameRows(marks, [][]int{{0}}) {
		t.Error(marks)
	}
	x, y := node(1, "x"), node(1, "y")
	n := node(2, "", x, y, x, node(2, "", x))
	if marks := shape.Marks(n, n); !sameRows(marks, [][]int{{0, 1, 2, 1, 3, 1}, {0, 1, 2, 1, 3, 1}}) {
		t.Error(marks)
	}
	if marks := shape.Marks(y, n, api.Node{}, x, n.Kids[3], node(3, "", n)); !sameRows(marks, [][]int{{0}, {1, 2, 0, 2, 3, 2}, {4}, {2}, {3, 2}, {5, 1, 2, 0, 2, 3, 2}}) {
		t.Error(marks)
	}
	var l []api.Node
	for i := range 1000 {
		l = append(l, node(i%7, strings.Repeat("a", i%3), x))
	}
	holdMarks(t, l...)
}

// P10.3: the first node alone counts; there may be none.
func TestTree(t *testing.T) {
	if n := shape.Tree(shape.Plan{}); !reflect.DeepEqual(n, api.Node{}) {
		t.Error(n)
	}
	if n := shape.Tree(shape.Plan{Nodes: []api.Node{}, Parent: []int{-1}, Size: []int{1}, Kids: [][]int{{5}}}); !reflect.DeepEqual(n, api.Node{}) {
		t.Error(n)
	}
	x := node(1, "x", node(2, "y"), trail("t", node(3, "z")))
	for _, p := range []shape.Plan{
		{Nodes: []api.Node{x}},
		{Nodes: []api.Node{x, {}, {}, {}, {}}, Parent: []int{7}, Size: []int{-1, 1 << 62}, Kids: [][]int{{-1}, nil, {0}}},
		{Nodes: []api.Node{x, x.Kids[1]}, Kids: [][]int{{1, 1}}},
	} {
		if n := shape.Tree(p); !alike(n, x) {
			t.Error(p, n)
		}
	}
}
