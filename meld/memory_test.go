package meld_test

import (
	"math/rand"
	"slices"
	"testing"

	"scarf/api"
	"scarf/fact"
	"scarf/meld"
	"scarf/tree"
)

// odd is what is written where nothing may be written.
var odd = fact.Fact{Sort: 9, Class: 9, Text: "odd"}

// written is t, made of lists with room behind their ends, in which something is written.
func written(t api.Node) api.Node {
	kids := make([]api.Node, 0, len(t.Kids)+2)
	for _, kid := range t.Kids {
		kids = append(kids, written(kid))
	}
	t.Kids = kids
	copy(kids[len(kids):cap(kids)], []api.Node{{Kind: 77, Text: "room"}, {Kind: 78, Text: "room"}})
	return t
}

// stays is whether t and what is written behind its lists' ends is as written made it.
func stays(t, was api.Node) bool {
	if t.Kind != was.Kind || t.Text != was.Text || t.Trail != was.Trail || len(t.Kids) != len(was.Kids) {
		return false
	}
	if room := t.Kids[len(t.Kids) : len(t.Kids)+2]; room[0].Kind != 77 || room[1].Kind != 78 || room[0].Text != "room" || room[1].Text != "room" {
		return false
	}
	for i := range t.Kids {
		if !stays(t.Kids[i], was.Kids[i]) {
			return false
		}
	}
	return true
}

// roomy is l with room behind its end, in which something is written.
func roomy(l []fact.Fact) []fact.Fact {
	return append(slices.Clone(l), odd, odd)[:len(l)]
}

// kept is whether l and what is written behind its end is as roomy made it.
func kept(l, was []fact.Fact) bool {
	return slices.Equal(l[:len(l)+2], append(slices.Clone(was), odd, odd))
}

// spoil writes over all of l, and behind its end.
func spoil[T any](l []T, with T) {
	l = l[:cap(l)]
	for i := range l {
		l[i] = with
	}
}

// spoilTree writes over all lists of t, and behind their ends.
func spoilTree(t api.Node) {
	for _, kid := range t.Kids {
		spoilTree(kid)
	}
	spoil(t.Kids, api.Node{Kind: 66, Kids: []api.Node{{}}})
}

// kidsOf are the lists of Kids of all nodes.
func kidsOf(t api.Node) [][]api.Node {
	l := [][]api.Node{t.Kids}
	for _, kid := range t.Kids {
		l = append(l, kidsOf(kid)...)
	}
	return l
}

// parted is whether what is written behind the end of each list of t shows nowhere in it.
func parted(t api.Node) bool {
	was := tree.Copy(t)
	for _, kids := range kidsOf(t) {
		spoil(kids[len(kids):], api.Node{Kind: 66})
		if !tree.Same(t, was) {
			return false
		}
	}
	return true
}

// some makes programs by chance, three by three: a base, and changed ones.
func some(t *testing.T, count int, hold func(r *rand.Rand, b, o, th api.Node)) {
	for seed := range count {
		m := maker{rand.New(rand.NewSource(int64(seed)))}
		base := m.items()
		b, o, th := program(t, text(base)), program(t, text(m.changed(base, true))), program(t, text(m.changed(base, true)))
		hold(m.Rand, b, o, th)
		hold(m.Rand, b, o, b)
		hold(m.Rand, b, th, th)
	}
}

// P14.4: Merge doesn't change what it is given; its answer stays, whatever is written into other answers, or into arguments.
func TestMemoryMerge(t *testing.T) {
	sound := 0
	some(t, 100, func(r *rand.Rand, b, o, th api.Node) {
		trees := [3]api.Node{b, o, th}
		own := [3]api.Node{written(b), written(o), written(th)}
		first, ok, _ := meld.Merge(own[0], own[1], own[2])
		second, _, _ := meld.Merge(own[0], own[1], own[2])
		was := tree.Copy(first)
		if !parted(first) {
			t.Fatal("one answer", b, o, th)
		}
		spoilTree(first)
		if third, again, _ := meld.Merge(own[0], own[1], own[2]); !tree.Same(second, was) || !tree.Same(third, was) || again != ok {
			t.Fatal("answers", b, o, th)
		}
		for i := range own {
			if !stays(own[i], trees[i]) {
				t.Fatal("arguments", i, b, o, th)
			}
			spoilTree(own[i])
		}
		if !tree.Same(second, was) {
			t.Fatal("shared", b, o, th)
		}
		if ok {
			sound++
		}
	})
	if sound < 200 {
		t.Error(sound)
	}
}

// P14.4: Of doesn't change what it is given, and its answer is new memory, also where it is one of the lists.
func TestMemoryOf(t *testing.T) {
	some(t, 50, func(r *rand.Rand, b, o, th api.Node) {
		var lists, own [3][]fact.Fact
		for i, n := range [3]api.Node{b, o, th} {
			lists[i], _ = facts(n, r.Perm(tree.Size(n)), 0)
			if r.Intn(2) == 0 {
				lists[i] = fact.Set(lists[i])
			}
		}
		for _, l := range [][3][]fact.Fact{lists, {nil, lists[1], nil}, {nil, nil, lists[2]}, {lists[0], lists[1], lists[0]}, {lists[0], lists[2], lists[2]}} {
			for i := range l {
				own[i] = roomy(l[i])
			}
			first, second := meld.Of(own[0], own[1], own[2]), meld.Of(own[0], own[1], own[2])
			was := slices.Clone(first)
			spoil(first, odd)
			if third := meld.Of(own[0], own[1], own[2]); !slices.Equal(second, was) || !slices.Equal(third, was) {
				t.Fatal("answers", l)
			}
			for i := range own {
				if !kept(own[i], l[i]) {
					t.Fatal("arguments", i, l)
				}
				spoil(own[i], odd)
			}
			if !slices.Equal(second, was) {
				t.Fatal("shared", l)
			}
		}
		alone := roomy(lists[0])
		got := meld.Of(alone, alone, alone)
		was := slices.Clone(got)
		spoil(alone, odd)
		if !slices.Equal(got, was) || !slices.Equal(got, fact.Set(lists[0])) {
			t.Fatal("one list", lists[0])
		}
	})
}

// P14.4: Sound doesn't change what it is given, and its answer is new memory.
func TestMemorySound(t *testing.T) {
	some(t, 50, func(r *rand.Rand, b, o, th api.Node) {
		l, _ := facts(o, r.Perm(tree.Size(o)), 0)
		own := roomy(l)
		first, ok := meld.Sound(own)
		second, _ := meld.Sound(own)
		if !ok || !parted(first) {
			t.Fatal("one answer", o)
		}
		spoilTree(first)
		if third, _ := meld.Sound(own); !tree.Same(second, o) || !tree.Same(third, o) {
			t.Fatal("answers", o)
		}
		meld.Sound(own[:len(own)-1])
		if !kept(own, l) {
			t.Fatal("arguments", o)
		}
		spoil(own, odd)
		if !tree.Same(second, o) {
			t.Fatal("shared", o)
		}
	})
}
