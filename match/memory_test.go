package match_test

import (
	"math/rand"
	"reflect"
	"testing"

	"scarf/api"
	"scarf/match"
)

// written is t, made of lists with room behind their ends, in which something is written.
func written(t api.Node) api.Node {
	kids := make([]api.Node, 0, len(t.Kids)+2)
	for _, kid := range t.Kids {
		kids = append(kids, written(kid))
	}
	t.Kids = kids
	copy(kids[len(kids):cap(kids)], []api.Node{{Kind: 77, Text: "room"}, {Kind: 78, Text: "room"}})
	return t
}

// stays is whether t and what is written behind its lists' ends is as written made it.
func stays(t, was api.Node) bool {
	if t.Kind != was.Kind || t.Text != was.Text || t.Trail != was.Trail || len(t.Kids) != len(was.Kids) {
		return false
	}
	if room := t.Kids[len(t.Kids) : len(t.Kids)+2]; room[0].Kind != 77 || room[1].Kind != 78 || room[0].Text != "room" || room[1].Text != "room" {
		return false
	}
	for i := range t.Kids {
		if !stays(t.Kids[i], was.Kids[i]) {
			return false
		}
	}
	return true
}

// spoil writes over all of l, and behind its end.
func spoil(l [][2]int) {
	l = l[:cap(l)]
	for i := range l {
		l[i] = [2]int{-99, -99}
	}
}

// P11.3: Of changes neither tree; what is written into an answer, also behind its end, changes no other.
func TestMemoryOf(t *testing.T) {
	holdMemory := func(a, b api.Node) {
		ownA, ownB := written(a), written(b)
		first, _ := match.Of(ownA, ownB)
		second, _ := match.Of(ownA, ownB)
		was := append([][2]int{}, first...)
		spoil(first)
		third, _ := match.Of(ownA, ownB)
		if !stays(ownA, a) || !stays(ownB, b) {
			t.Fatal("changed", a, b)
		}
		if len(was) != len(second) || len(was) > 0 && (!reflect.DeepEqual(second, was) || !reflect.DeepEqual(third, was)) {
			t.Fatal("shared", a, b, was, second, third)
		}
		self, _ := match.Of(ownA, ownA)
		if len(self) != len(places(a)) || !stays(ownA, a) {
			t.Fatal("with itself", a, self)
		}
	}
	some(500, holdMemory)
	for seed := range 300 {
		r := rand.New(rand.NewSource(int64(seed)))
		holdMemory(byChance(t, r), byChance(t, r))
	}
}

// P11.3: Right changes neither tree, nor the pairs, nor the room behind their end.
func TestMemoryRight(t *testing.T) {
	some(200, func(a, b api.Node) {
		ownA, ownB := written(a), written(b)
		pairs, _ := match.Of(a, b)
		l := append(append(make([][2]int, 0, len(pairs)+2), pairs...), [2]int{7, 8}, [2]int{9, 10})
		if match.Right(ownA, ownB, l[:len(pairs)]) != (len(pairs) > 0) {
			t.Fatal(a, b, pairs)
		}
		if !stays(ownA, a) || !stays(ownB, b) || len(pairs) > 0 && !reflect.DeepEqual(l[:len(pairs)], pairs) || l[len(pairs)] != [2]int{7, 8} || l[len(pairs)+1] != [2]int{9, 10} {
			t.Fatal("changed", a, b, l)
		}
	})
}
