package class_test

import (
	"math/rand"
	"slices"
	"testing"

	"scarf/api"
	"scarf/class"
)

// rows are all rows of trees that have so many nodes in all.
func rows(size int, words []api.Node) [][]api.Node {
	if size == 0 {
		return [][]api.Node{nil}
	}
	var l [][]api.Node
	for first := 1; first <= size; first++ {
		for _, n := range trees(first, words) {
			for _, others := range rows(size-first, words) {
				l = append(l, append([]api.Node{n}, others...))
			}
		}
	}
	return l
}

// trees are all trees of so many nodes, each of them one of the words with Kids of its own.
func trees(size int, words []api.Node) []api.Node {
	var l []api.Node
	for _, kids := range rows(size-1, words) {
		for _, n := range words {
			n.Kids = kids
			l = append(l, n)
		}
	}
	return l
}

// P12.1, P12.2: all small trees against each other, three by three.
func TestAllSmall(t *testing.T) {
	words := []api.Node{{}, {Kind: 1}, {Trail: "1"}}
	few := slices.Concat(trees(1, words), trees(2, words), trees(3, words[:1]))
	for _, b := range few {
		for _, o := range few {
			for _, th := range few {
				hold(t, b, o, th)
			}
		}
	}
	bases := slices.Concat(trees(1, words[:1]), trees(2, words[:1]))
	sides := slices.Concat(trees(3, words[:2]), trees(4, words[:1]), trees(5, words[:1]))
	for _, b := range bases {
		for _, o := range sides {
			for _, th := range sides {
				hold(t, b, o, th)
			}
		}
	}
}

// maker makes trees by chance.
type maker struct{ *rand.Rand }

// node is a tree of at most so many nodes, so deep; such as have many nodes alike.
func (m maker) node(left *int, room int) api.Node {
	*left--
	texts := []string{"", "", "a", "b", "1 ", "a\x00"}
	n := api.Node{Kind: m.Intn(3), Text: texts[m.Intn(len(texts))]}
	if m.Intn(5) == 0 {
		n.Trail = texts[m.Intn(len(texts))]
	}
	for room > 0 && *left > 0 && m.Intn(4) != 0 {
		kid := m.node(left, room-1)
		n.Kids = append(n.Kids, kid)
		if m.Intn(4) == 0 {
			n.Kids = append(n.Kids, kid)
		}
	}
	return n
}

// changed is t with some nodes taken out, put in, changed, put around others, moved.
func (m maker) changed(t api.Node) api.Node {
	fresh := api.Node{Kind: 3 + m.Intn(2), Kids: []api.Node{{Kind: m.Intn(3)}}}
	var kids []api.Node
	for _, kid := range t.Kids {
		switch m.Intn(12) {
		case 0:
		case 1, 2:
			kids = append(kids, m.changed(kid), fresh)
		case 3:
			kids = append(kids, api.Node{Kind: m.Intn(5), Kids: []api.Node{kid, fresh}})
		case 4:
			kids = append(kids, kid.Kids...)
		case 5:
			kids = append([]api.Node{m.changed(kid)}, kids...)
		case 6:
			kid.Text = "new"
			kids = append(kids, kid)
		default:
			kids = append(kids, m.changed(kid))
		}
	}
	t.Kids = kids
	return t
}

// some makes trees by chance, three by three: such as have little to do with each other, and changed ones.
func some(count int, hold func(b, o, t api.Node)) {
	for seed := range count {
		m := maker{rand.New(rand.NewSource(int64(seed)))}
		left, more := 1+m.Intn(50), 1+m.Intn(50)
		b, other := m.node(&left, 1+m.Intn(7)), m.node(&more, 1+m.Intn(7))
		o := m.changed(b)
		hold(b, o, m.changed(b))
		hold(b, o, m.changed(o))
		if m.Intn(4) == 0 {
			other.Kind = b.Kind
			hold(b, other, m.changed(other))
			hold(b, other, o)
		}
	}
}

// P12.1, P12.2: trees by chance.
func TestByChance(t *testing.T) {
	shared := 0
	some(700, func(b, o, th api.Node) {
		shared += hold(t, b, o, th)
	})
	if shared < 1000 {
		t.Error(shared)
	}
}

// items are what programs by chance are made of; many share their keys, some their trees but for the name.
var items = []string{
	"const a = 1", "const a = 2", "const b = f(1)", "var a = 1", "var b = f(1)", "type a int", "type a struct { a int; b int }",
	"func f() { x++; y++ }", "func f() { y++; x++; y++ }", "func (r t) f() { x++ }", "func (s t) f() { y++ }",
	"func g(a int, b int) int { if a { return b }; return f(a) }", "// n", "// n", "// m", "const a = 1 // n", "func h() { // n\n // m\n x++ // n\n }",
}

// byChance is a program of some of the items.
func byChance(t *testing.T, r *rand.Rand) api.Node {
	var l []string
	for range r.Intn(8) {
		l = append(l, items[r.Intn(len(items))])
	}
	return program(t, l...)
}

// P12.1, P12.2: programs by chance; the same question asked twice.
func TestProgramsByChance(t *testing.T) {
	shared := 0
	for seed := range 1000 {
		r := rand.New(rand.NewSource(int64(seed)))
		b, o, th := byChance(t, r), byChance(t, r), byChance(t, r)
		first, _ := class.Of(b, o, th)
		shared += hold(t, b, o, th)
		if second, _ := class.Of(b, o, th); !same(first, second) {
			t.Fatal(b, o, th, first, second)
		}
	}
	if shared < 2000 {
		t.Error(shared)
	}
}

// P12.1, P1: garbage of all kinds.
func TestGarbage(t *testing.T) {
	kinds := []int{-1 << 63, -1, 0, 1, 2, 7, 16, 33, 34, 1<<63 - 1}
	for seed := range 1500 {
		r := rand.New(rand.NewSource(int64(seed)))
		var garbage func(room int) api.Node
		garbage = func(room int) api.Node {
			n := api.Node{Kind: kinds[r.Intn(len(kinds))], Text: string([]byte{byte(r.Intn(256))}[:r.Intn(2)]), Trail: "//"[:r.Intn(3)]}
			for range r.Intn(room + 1) {
				n.Kids = append(n.Kids, garbage(room-1))
			}
			return n
		}
		b, o, th := garbage(4), garbage(4), garbage(4)
		hold(t, b, o, th)
		o.Kind = b.Kind
		hold(t, b, o, th)
		th.Kind = b.Kind
		hold(t, b, o, th)
	}
}
