package shape_test

import (
	"reflect"
	"slices"
	"testing"

	"scarf/api"
	"scarf/shape"
)

// stretch is where a list lies, with the room behind its end.
type stretch struct{ from, to uintptr }

// stretches are where the lists in v lie.
func stretches(v reflect.Value) []stretch {
	var l []stretch
	switch v.Kind() {
	case reflect.Struct:
		for i := range v.NumField() {
			l = append(l, stretches(v.Field(i))...)
		}
	case reflect.Slice:
		if v.Cap() > 0 {
			from := v.Pointer()
			l = append(l, stretch{from, from + uintptr(v.Cap())*v.Type().Elem().Size()})
		}
		for i := range v.Len() {
			l = append(l, stretches(v.Index(i))...)
		}
	}
	return l
}

// apart is whether no two lists in all of these share memory.
func apart(l ...any) bool {
	var all []stretch
	for _, x := range l {
		all = append(all, stretches(reflect.ValueOf(x))...)
	}
	slices.SortFunc(all, func(a, b stretch) int {
		if a.from < b.from {
			return -1
		}
		return 1
	})
	for i := 1; i < len(all); i++ {
		if all[i].from < all[i-1].to {
			return false
		}
	}
	return true
}

// written is t, made of lists with room behind their ends, in which something is written.
func written(t api.Node) api.Node {
	kids := make([]api.Node, 0, len(t.Kids)+2)
	for _, kid := range t.Kids {
		kids = append(kids, written(kid))
	}
	t.Kids = kids
	copy(kids[len(kids):cap(kids)], []api.Node{{Kind: 77, Text: "room"}, {Kind: 78, Text: "room"}})
	return t
}

// stays is whether t and what is written behind its lists' ends is as written made it.
func stays(t, was api.Node) bool {
	if t.Kind != was.Kind || t.Text != was.Text || t.Trail != was.Trail || len(t.Kids) != len(was.Kids) {
		return false
	}
	if room := t.Kids[len(t.Kids) : len(t.Kids)+2]; room[0].Kind != 77 || room[1].Kind != 78 || room[0].Text != "room" || room[1].Text != "room" {
		return false
	}
	for i := range t.Kids {
		if !stays(t.Kids[i], was.Kids[i]) {
			return false
		}
	}
	return true
}

// spoil writes over all of t's lists, and behind their ends.
func spoil(t api.Node) {
	for i := range t.Kids {
		spoil(t.Kids[i])
	}
	l := t.Kids[:cap(t.Kids)]
	for i := range l {
		l[i] = api.Node{Kind: 99, Text: "spoilt", Trail: "spoilt"}
	}
}

func spoilPlan(p shape.Plan) {
	for _, n := range p.Nodes {
		spoil(n)
	}
	for _, l := range append(p.Kids, p.Parent, p.Size) {
		l = l[:cap(l)]
		for i := range l {
			l[i] = -99
		}
	}
	clear(p.Nodes[:cap(p.Nodes)])
	clear(p.Kids[:cap(p.Kids)])
}

// P10.4: Of and Tree.
func TestMemoryOf(t *testing.T) {
	some(200, func(n api.Node) {
		own := written(n)
		p, q := shape.Of(own), shape.Of(own)
		first, second := shape.Tree(q), shape.Tree(q)
		if !apart(own, p, q, first, second) {
			t.Fatal("shared", n)
		}
		spoilPlan(p)
		spoil(first)
		if !stays(own, n) || !samePlan(q, plain(n)) || !alike(second, n) {
			t.Fatal("changed", n)
		}
		spoil(own)
		if !samePlan(q, plain(n)) || !alike(second, n) {
			t.Fatal("kept", n)
		}
	})
}

// P10.4: Tree of a Plan whose lists have room behind their ends.
func TestMemoryTree(t *testing.T) {
	n := written(node(1, "a", node(2, "b", node(3, "c")), node(4, "d")))
	p := shape.Plan{Nodes: []api.Node{n, {Kind: 5}}[:1], Parent: []int{1, 2}[:1], Size: []int{1, 2}[:0], Kids: [][]int{{1, 2}, {3}}[:1]}
	own := shape.Tree(p)
	spoil(own)
	if !stays(n, n) || n.Kids[0].Kids[0].Text != "c" || p.Nodes[:2][1].Kind != 5 || p.Parent[:2][1] != 2 || p.Size[:2][1] != 2 || p.Kids[:2][1][0] != 3 {
		t.Error(p)
	}
	own = shape.Tree(p)
	spoilPlan(shape.Plan{Nodes: p.Nodes})
	if !alike(own, node(1, "a", node(2, "b", node(3, "c")), node(4, "d"))) {
		t.Error(own)
	}
}

// P10.4: Marks.
func TestMemoryMarks(t *testing.T) {
	some(200, func(n api.Node) {
		own := written(n)
		l := make([]api.Node, 3, 5)
		l[0], l[1], l[2] = own, own, node(1, "", own)
		l[:4][3].Kind = 77
		a, b := shape.Marks(l...), shape.Marks(l...)
		if !apart(a, b) {
			t.Fatal("shared", n)
		}
		for _, row := range a {
			row = row[:cap(row)]
			for i := range row {
				row[i] = -99
			}
		}
		clear(a[:cap(a)])
		if !stays(own, n) || l[:4][3].Kind != 77 || len(l[2].Kids) != 1 || !sameRows(b, plainMarks(n, n, node(1, "", n))) {
			t.Fatal("changed", n)
		}
	})
}

// P10.1, P10.4: the same question has the same answer, whatever was asked in between.
func TestAgain(t *testing.T) {
	some(100, func(n api.Node) {
		p, marks := shape.Of(n), shape.Marks(n, n)
		shape.Of(node(1, "", n, n))
		shape.Marks(node(1, "x", n), api.Node{})
		if !samePlan(shape.Of(n), p) || !sameRows(shape.Marks(n, n), marks) {
			t.Fatal(n)
		}
	})
}
