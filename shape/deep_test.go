package shape_test

import (
	"runtime/debug"
	"testing"

	"scarf/api"
	"scarf/shape"
)

// nested is a leaf so deep within others; each of them has so many leaves ahead of what is nested, and one behind it.
func nested(deep, ahead int) api.Node {
	leaf := node(1, "leaf")
	n := leaf
	for range deep {
		kids := make([]api.Node, 0, ahead+2)
		for range ahead {
			kids = append(kids, leaf)
		}
		n = node(2, "in", append(kids, n, leaf)...)
	}
	return n
}

// holdNested asks for P10.1 to P10.3 of such a tree.
func holdNested(t *testing.T, deep, ahead int) {
	t.Helper()
	n := nested(deep, ahead)
	size := deep*(ahead+2) + 1
	p := shape.Of(n)
	if len(p.Nodes) != size || len(p.Parent) != size || len(p.Size) != size || len(p.Kids) != size {
		t.Fatal(len(p.Nodes), size)
	}
	for level := range deep {
		at := level * (ahead + 1)
		parent := at - ahead - 1
		if level == 0 {
			parent = -1
		}
		below := size - level*(ahead+2)
		if p.Parent[at] != parent || p.Size[at] != below || len(p.Kids[at]) != ahead+2 || p.Kids[at][ahead] != at+ahead+1 || p.Kids[at][ahead+1] != at+below-1 {
			t.Fatal(level, p.Parent[at], p.Size[at], p.Kids[at])
		}
		if p.Nodes[at].Kind != 2 || p.Nodes[at+below-1].Kind != 1 || p.Parent[at+below-1] != at || len(p.Nodes[at].Kids) != ahead+2 {
			t.Fatal(level)
		}
	}
	marks := shape.Marks(n, n)
	for at, mark := range marks[0] {
		want := deep // the leaf within all others is the first one
		if at%(ahead+1) == 0 && at < deep*(ahead+1) {
			want = at / (ahead + 1)
			if ahead > 0 && at > 0 {
				want++
			}
		} else if ahead > 0 && deep > 0 {
			want = 1
		}
		if mark != want || marks[1][at] != want {
			t.Fatal(at, mark, marks[1][at], want)
		}
	}
	root := shape.Tree(p)
	for range deep {
		if root.Kind != 2 || len(root.Kids) != ahead+2 {
			t.Fatal(root.Kind)
		}
		root = root.Kids[ahead]
	}
	if root.Kind != 1 || len(root.Kids) != 0 {
		t.Fatal(root)
	}
}

// P10.1 to P10.3, P1: trees nested 2^16 deep, by first Kids and by others.
func TestDeep(t *testing.T) {
	for _, deep := range []int{0, 1, 2, 100, 1000, 1 << 16} {
		holdNested(t, deep, 0)
		holdNested(t, deep, 1)
		holdNested(t, deep, 2)
	}
}

// P1: long sums are nested by first Kids, far deeper than calls may be within one another.
func TestLongSums(t *testing.T) {
	defer debug.SetMaxStack(debug.SetMaxStack(1 << 19))
	holdNested(t, 1<<18, 0)
}

// P10.4: what is deep shares no memory with the tree that it was made of.
func TestDeepMemory(t *testing.T) {
	n := nested(5000, 0)
	p := shape.Of(n)
	for x := n; len(x.Kids) > 0; {
		kids := x.Kids
		x = kids[0]
		clear(kids)
	}
	root := shape.Tree(p)
	for at := range 5000 {
		if p.Nodes[at].Kind != 2 || len(p.Nodes[at].Kids) != 2 || p.Nodes[at].Kids[1].Kind != 1 || len(root.Kids) != 2 {
			t.Fatal(at, p.Nodes[at].Kind)
		}
		clear(p.Nodes[at].Kids[1:])
		root = root.Kids[0]
	}
	if root.Kind != 1 {
		t.Error(root.Kind)
	}
}

// P10.1, P10.2: a long row of Kids.
func TestWide(t *testing.T) {
	const wide = 1 << 18
	n := node(1, "", make([]api.Node, wide)...)
	for i := range n.Kids {
		n.Kids[i].Kind = i % 1000
	}
	p := shape.Of(n)
	marks := shape.Marks(n, n, n.Kids[999])
	if len(p.Nodes) != wide+1 || p.Size[0] != wide+1 || p.Parent[0] != -1 || len(p.Kids[0]) != wide || marks[0][0] != 0 || marks[1][0] != 0 || !sameInts(marks[2], []int{1000}) {
		t.Fatal(len(p.Nodes), p.Size[0])
	}
	for i := range wide {
		if p.Nodes[i+1].Kind != i%1000 || p.Parent[i+1] != 0 || p.Size[i+1] != 1 || p.Kids[0][i] != i+1 || len(p.Kids[i+1]) != 0 || marks[0][i+1] != 1+i%1000 || marks[1][i+1] != 1+i%1000 {
			t.Fatal(i)
		}
	}
}
