package match_test

import (
	"math/rand"
	"slices"
	"testing"

	"scarf/api"
	"scarf/match"
)

// rows are all rows of trees that have so many nodes in all.
func rows(size int, words []api.Node) [][]api.Node {
	if size == 0 {
		return [][]api.Node{nil}
	}
	var l [][]api.Node
	for first := 1; first <= size; first++ {
		for _, n := range trees(first, words) {
			for _, others := range rows(size-first, words) {
				l = append(l, append([]api.Node{n}, others...))
			}
		}
	}
	return l
}

// trees are all trees of so many nodes, each of them one of the words with Kids of its own.
func trees(size int, words []api.Node) []api.Node {
	var l []api.Node
	for _, kids := range rows(size-1, words) {
		for _, n := range words {
			n.Kids = kids
			l = append(l, n)
		}
	}
	return l
}

// P11.1: all small trees against each other.
func TestAllSmall(t *testing.T) {
	words := []api.Node{{}, {Kind: 1}, {Text: "1"}, {Trail: "1"}}
	few := slices.Concat(trees(1, words), trees(2, words), trees(3, words[:3]))
	for _, a := range few {
		for _, b := range few {
			hold(t, a, b)
		}
	}
	shapes := slices.Concat(trees(4, words[:1]), trees(5, words[:1]), trees(6, words[:1]), trees(4, words[:2]))
	for _, a := range shapes {
		for _, b := range shapes {
			hold(t, a, b)
		}
	}
}

// maker makes trees by chance.
type maker struct{ *rand.Rand }

// node is a tree of at most so many nodes, so deep; such as have many nodes alike.
func (m maker) node(left *int, room int) api.Node {
	*left--
	texts := []string{"", "", "a", "b", "1 ", "a\x00"}
	n := api.Node{Kind: m.Intn(3), Text: texts[m.Intn(len(texts))]}
	if m.Intn(5) == 0 {
		n.Trail = texts[m.Intn(len(texts))]
	}
	for room > 0 && *left > 0 && m.Intn(4) != 0 {
		kid := m.node(left, room-1)
		n.Kids = append(n.Kids, kid)
		if m.Intn(4) == 0 {
			n.Kids = append(n.Kids, kid)
		}
	}
	return n
}

// changed is t with some nodes taken out, put in, changed, put around others, moved.
func (m maker) changed(t api.Node) api.Node {
	var kids []api.Node
	for _, kid := range t.Kids {
		switch m.Intn(12) {
		case 0:
		case 1:
			kids = append(kids, m.changed(kid), api.Node{Kind: m.Intn(3), Text: "a"})
		case 2:
			kids = append(kids, api.Node{Kind: m.Intn(3), Kids: []api.Node{kid}})
		case 3:
			kids = append(kids, kid.Kids...)
		case 4:
			kids = append([]api.Node{m.changed(kid)}, kids...)
		case 5:
			kid.Text = "new"
			kids = append(kids, kid)
		default:
			kids = append(kids, m.changed(kid))
		}
	}
	t.Kids = kids
	return t
}

// some makes pairs of trees by chance: such as have nothing to do with each other, and changed ones.
func some(count int, hold func(a, b api.Node)) {
	for seed := range count {
		m := maker{rand.New(rand.NewSource(int64(seed)))}
		left, more := 1+m.Intn(60), 1+m.Intn(60)
		a := m.node(&left, 1+m.Intn(8))
		if b := m.node(&more, 1+m.Intn(8)); m.Intn(4) == 0 {
			b.Kind = a.Kind
			hold(a, b)
		}
		hold(a, m.changed(a))
	}
}

// P11.1: trees by chance.
func TestByChance(t *testing.T) {
	some(4000, func(a, b api.Node) {
		hold(t, a, b)
	})
}

// P11.1, P1: garbage of all kinds.
func TestGarbage(t *testing.T) {
	kinds := []int{-1 << 63, -1, 0, 1, 2, 7, 16, 33, 34, 1<<63 - 1}
	for seed := range 3000 {
		r := rand.New(rand.NewSource(int64(seed)))
		var garbage func(room int) api.Node
		garbage = func(room int) api.Node {
			n := api.Node{Kind: kinds[r.Intn(len(kinds))], Text: string([]byte{byte(r.Intn(256))}[:r.Intn(2)]), Trail: "//"[:r.Intn(3)]}
			for range r.Intn(room + 1) {
				n.Kids = append(n.Kids, garbage(room-1))
			}
			return n
		}
		a, b := garbage(4), garbage(4)
		hold(t, a, b)
		b.Kind = a.Kind
		hold(t, a, b)
		l := make([][2]int, r.Intn(5))
		for i := range l {
			l[i] = [2]int{r.Intn(7) - 1, r.Intn(7) - 1}
		}
		if match.Right(a, b, l) != isMatch(a, b, l) {
			t.Fatal(a, b, l)
		}
	}
}
