package shape_test

import (
	"math/rand"
	"slices"
	"testing"

	"scarf/api"
)

// rows are all rows of trees that have so many nodes in all.
func rows(size int, words []api.Node) [][]api.Node {
	if size == 0 {
		return [][]api.Node{nil}
	}
	var l [][]api.Node
	for first := 1; first <= size; first++ {
		for _, n := range trees(first, words) {
			for _, others := range rows(size-first, words) {
				l = append(l, append([]api.Node{n}, others...))
			}
		}
	}
	return l
}

// trees are all trees of so many nodes, each of them one of the words with Kids of its own.
func trees(size int, words []api.Node) []api.Node {
	var l []api.Node
	for _, kids := range rows(size-1, words) {
		for _, n := range words {
			n.Kids = kids
			l = append(l, n)
		}
	}
	return l
}

// some makes trees by chance: such as have many nodes alike, deep and wide ones.
func some(count int, hold func(n api.Node)) {
	for seed := range count {
		hold(maker{rand.New(rand.NewSource(int64(seed)))}.tree())
	}
}

type maker struct{ *rand.Rand }

func (m maker) tree() api.Node {
	left := 1 + m.Intn(40)
	return m.node(&left, 1+m.Intn(8))
}

func (m maker) node(left *int, room int) api.Node {
	*left--
	texts := []string{"", "", "a", "b", "1 ", "a\x00"}
	n := api.Node{Kind: m.Intn(3), Text: texts[m.Intn(len(texts))]}
	if m.Intn(3) == 0 {
		n.Trail = texts[m.Intn(len(texts))]
	}
	for room > 0 && *left > 0 && m.Intn(4) != 0 {
		kid := m.node(left, room-1)
		n.Kids = append(n.Kids, kid)
		if m.Intn(4) == 0 {
			n.Kids = append(n.Kids, kid) // the same node again, its Kids the very same list
		}
	}
	return n
}

// P10.1 to P10.3: all small trees.
func TestAllSmall(t *testing.T) {
	words := []api.Node{{}, {Kind: 1}, {Text: "1"}, {Trail: "1"}}
	var l []api.Node
	for size := 1; size <= 4; size++ {
		l = append(l, trees(size, words)...)
	}
	for _, n := range l {
		holdOf(t, n)
		holdMarks(t, n)
	}
	for size := 5; size <= 7; size++ {
		for _, n := range trees(size, words[:1]) {
			holdOf(t, n)
			holdMarks(t, n, n)
		}
	}
}

// P10.2: all pairs of small trees.
func TestAllPairs(t *testing.T) {
	words := []api.Node{{}, {Kind: 1}, {Text: "1"}, {Trail: "1"}}
	l := slices.Concat(trees(1, words), trees(2, words), trees(3, words[:2]))
	for _, a := range l {
		for _, b := range l {
			holdMarks(t, a, b)
		}
	}
}

// P10.1 to P10.3: trees by chance, alone and several at once.
func TestByChance(t *testing.T) {
	var l []api.Node
	some(2000, func(n api.Node) {
		holdOf(t, n)
		l = append(l, n)
	})
	for i := range l[:500] {
		holdMarks(t, l[i:i+1+i%5]...)
	}
}
