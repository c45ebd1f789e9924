package class_test

import (
	"slices"
	"testing"

	"scarf/api"
	"scarf/class"
)

// written is t, made of lists with room behind their ends, in which something is written.
func written(t api.Node) api.Node {
	kids := make([]api.Node, 0, len(t.Kids)+2)
	for _, kid := range t.Kids {
		kids = append(kids, written(kid))
	}
	t.Kids = kids
	copy(kids[len(kids):cap(kids)], []api.Node{{Kind: 77, Text: "room"}, {Kind: 78, Text: "room"}})
	return t
}

// stays is whether t and what is written behind its lists' ends is as written made it.
func stays(t, was api.Node) bool {
	if t.Kind != was.Kind || t.Text != was.Text || t.Trail != was.Trail || len(t.Kids) != len(was.Kids) {
		return false
	}
	if room := t.Kids[len(t.Kids) : len(t.Kids)+2]; room[0].Kind != 77 || room[1].Kind != 78 || room[0].Text != "room" || room[1].Text != "room" {
		return false
	}
	for i := range t.Kids {
		if !stays(t.Kids[i], was.Kids[i]) {
			return false
		}
	}
	return true
}

// copied are the same classes, of new memory.
func copied(l [3][]int) [3][]int {
	return [3][]int{slices.Clone(l[0]), slices.Clone(l[1]), slices.Clone(l[2])}
}

// spoil writes over all of l, and behind its end.
func spoil(l []int) {
	l = l[:cap(l)]
	for i := range l {
		l[i] = -99
	}
}

// P12.3: no tree is changed; what is written into a list of an answer, also behind its end, changes no other list.
func TestMemory(t *testing.T) {
	holdMemory := func(b, o, th api.Node) {
		trees := [3]api.Node{b, o, th}
		own := [3]api.Node{written(b), written(o), written(th)}
		first, _ := class.Of(own[0], own[1], own[2])
		second, _ := class.Of(own[0], own[1], own[2])
		was := copied(first)
		for i := range first {
			spoil(first[i])
			for j := i + 1; j < 3; j++ {
				if !slices.Equal(first[j], was[j]) {
					t.Fatal("lists of one answer", i, j, b, o, th)
				}
			}
		}
		third, _ := class.Of(own[0], own[1], own[2])
		if !same(second, was) || !same(third, was) {
			t.Fatal("answers", b, o, th)
		}
		for i := range own {
			if !stays(own[i], trees[i]) {
				t.Fatal("arguments", i, b, o, th)
			}
		}
	}
	some(200, holdMemory)
	some(50, func(b, o, th api.Node) {
		holdMemory(b, b, b)
		holdMemory(b, o, o)
		holdMemory(b, o, b)
		o.Kind = 9
		holdMemory(b, o, th)
	})
}

// P12.3: one tree in all three places is as three trees.
func TestOneTree(t *testing.T) {
	some(50, func(b, _, _ api.Node) {
		own := written(b)
		got, e := class.Of(own, own, own)
		if e != api.OK || !slices.Equal(got[0], got[1]) || !slices.Equal(got[0], got[2]) || !stays(own, b) {
			t.Fatal(b, got, e)
		}
		spoil(got[0])
		if slices.Equal(got[0], got[1]) || !slices.Equal(got[1], got[2]) {
			t.Fatal("shared", b, got)
		}
	})
}
