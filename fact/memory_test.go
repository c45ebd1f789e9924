package fact_test

import (
	"slices"
	"testing"

	"scarf/api"
	"scarf/fact"
	"scarf/tree"
)

// written is t, made of lists with room behind their ends, in which something is written.
func written(t api.Node) api.Node {
	kids := make([]api.Node, 0, len(t.Kids)+2)
	for _, kid := range t.Kids {
		kids = append(kids, written(kid))
	}
	t.Kids = kids
	copy(kids[len(kids):cap(kids)], []api.Node{{Kind: 77, Text: "room"}, {Kind: 78, Text: "room"}})
	return t
}

// stays is whether t and what is written behind its lists' ends is as written made it.
func stays(t, was api.Node) bool {
	if t.Kind != was.Kind || t.Text != was.Text || t.Trail != was.Trail || len(t.Kids) != len(was.Kids) {
		return false
	}
	if room := t.Kids[len(t.Kids) : len(t.Kids)+2]; room[0].Kind != 77 || room[1].Kind != 78 || room[0].Text != "room" || room[1].Text != "room" {
		return false
	}
	for i := range t.Kids {
		if !stays(t.Kids[i], was.Kids[i]) {
			return false
		}
	}
	return true
}

// roomy is l with room behind its end, in which last is written.
func roomy[T any](l []T, last T) []T {
	return append(slices.Clone(l), last, last)[:len(l)]
}

// kept is whether l and what is written behind its end is as roomy made it.
func kept[T comparable](l, was []T, last T) bool {
	return slices.Equal(l[:len(l)+2], append(slices.Clone(was), last, last))
}

// spoil writes over all of l, and behind its end.
func spoil[T any](l []T, with T) {
	l = l[:cap(l)]
	for i := range l {
		l[i] = with
	}
}

// spoilTree writes over all lists of t, and behind their ends.
func spoilTree(t api.Node) {
	for _, kid := range t.Kids {
		spoilTree(kid)
	}
	spoil(t.Kids, api.Node{Kind: 66, Kids: []api.Node{{}}})
}

// odd is what is written where nothing may be written.
var odd = fact.Fact{Sort: 9, Class: 9, Text: "odd"}

// P13.5: Of doesn't change what it is given; its answer stays whatever is written into other answers or arguments.
func TestMemoryOf(t *testing.T) {
	some(200, func(m maker, n api.Node, classes []int) {
		own, places := written(n), roomy(classes, 88)
		first, _ := fact.Of(own, places)
		second, _ := fact.Of(own, places)
		was := slices.Clone(first)
		spoil(first, odd)
		if third, _ := fact.Of(own, places); !slices.Equal(second, was) || !slices.Equal(third, was) {
			t.Fatal("answers", n, classes)
		}
		places[0] = -1
		if _, e := fact.Of(own, places); e != api.ErrArg {
			t.Fatal(n, places, e)
		}
		places[0] = classes[0]
		if !stays(own, n) || !kept(places, classes, 88) {
			t.Fatal("arguments", n, classes)
		}
		spoilTree(own)
		spoil(places, 99)
		if !slices.Equal(second, was) {
			t.Fatal("shared", n, classes)
		}
	})
}

// P13.5: Tree doesn't change what it is given; what is written into one list of its answer shows in no other.
func TestMemoryTree(t *testing.T) {
	some(200, func(m maker, n api.Node, classes []int) {
		l, _ := fact.Of(n, classes)
		l = m.mixed(l)
		own := roomy(l, odd)
		first, places, _ := fact.Tree(own)
		second, others, _ := fact.Tree(own)
		spoilTree(first)
		spoil(places, 99)
		if third, more, _ := fact.Tree(own); !tree.Same(second, n) || !tree.Same(third, n) || !slices.Equal(others, classes) || !slices.Equal(more, classes) {
			t.Fatal("answers", n, classes)
		}
		fact.Tree(own[:len(own)/2])
		if !kept(own, l, odd) {
			t.Fatal("arguments", n, classes)
		}
		spoil(own, odd)
		if !tree.Same(second, n) || !slices.Equal(others, classes) {
			t.Fatal("shared", n, classes)
		}
	})
}

// parted is whether what is written behind the end of each list of t shows nowhere in it.
func parted(t api.Node) bool {
	was := tree.Copy(t)
	all := true
	for _, n := range kidsOf(t) {
		spoil(n[len(n):], api.Node{Kind: 66})
		all = all && tree.Same(t, was)
	}
	return all
}

// kidsOf are the lists of Kids of all nodes.
func kidsOf(t api.Node) [][]api.Node {
	l := [][]api.Node{t.Kids}
	for _, kid := range t.Kids {
		l = append(l, kidsOf(kid)...)
	}
	return l
}

// P13.5: the lists of one tree share no room.
func TestParted(t *testing.T) {
	some(100, func(m maker, n api.Node, classes []int) {
		l, _ := fact.Of(n, classes)
		if got, _, _ := fact.Tree(l); !parted(got) {
			t.Fatal(n)
		}
	})
}

// P13.5: sets are new memory, also where nothing is to be put in order or taken away.
func TestMemorySets(t *testing.T) {
	some(200, func(m maker, n api.Node, classes []int) {
		a, _ := fact.Of(n, classes)
		a = a[m.Intn(len(a)):]
		if m.Intn(3) == 0 {
			a = m.mixed(a)
		}
		for _, b := range [][]fact.Fact{a, nil, m.mixed(a)[m.Intn(len(a)):], {word(1, 7, "z", "")}} {
			x, y := roomy(a, odd), roomy(b, odd)
			for i, of := range []func() []fact.Fact{
				func() []fact.Fact { return fact.Set(x) },
				func() []fact.Fact { return fact.Both(x, y) },
				func() []fact.Fact { return fact.Minus(x, y) },
				func() []fact.Fact { return fact.Any(x, y) },
				func() []fact.Fact { return fact.Both(x, x) },
				func() []fact.Fact { return fact.Any(y, y) },
			} {
				first, second := of(), of()
				was := slices.Clone(first)
				spoil(first, odd)
				if !slices.Equal(second, was) || !slices.Equal(of(), was) {
					t.Fatal("answers", i, a, b)
				}
				if !kept(x, a, odd) || !kept(y, b, odd) {
					t.Fatal("arguments", i, a, b)
				}
			}
			set := fact.Set(x)
			any := fact.Any(x, y)
			was, more := slices.Clone(set), slices.Clone(any)
			spoil(x, odd)
			spoil(y, odd)
			if !slices.Equal(set, was) || !slices.Equal(any, more) {
				t.Fatal("shared", a, b)
			}
		}
	})
}
