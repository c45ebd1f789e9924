package fact_test

import (
	"math"
	"math/bits"
	"math/rand"
	"slices"
	"testing"

	"scarf/api"
	"scarf/fact"
	"scarf/parse"
	"scarf/tree"
)

// grown is the tree below a class, as facts tell it, and its classes; false, if they don't, or if it has too many nodes.
func grown(l []fact.Fact, class int, left *int) (api.Node, []int, bool) {
	*left--
	first := func(is func(f fact.Fact) bool) (fact.Fact, bool) {
		i := slices.IndexFunc(l, is)
		if i < 0 || *left < 0 {
			return fact.Fact{}, false
		}
		return l[i], true
	}
	w, ok := first(func(f fact.Fact) bool { return f.Sort == 1 && f.Class == class })
	if !ok {
		return api.Node{}, nil, false
	}
	n, classes, ahead := api.Node{Kind: w.Kind, Text: w.Text, Trail: w.Trail}, []int{class}, -1
	for {
		k, ok := first(func(f fact.Fact) bool { return f.Sort == 2 && f.Class == class && f.A == ahead })
		if !ok {
			return api.Node{}, nil, false
		}
		if k.B == -1 {
			return n, classes, true
		}
		kid, below, ok := grown(l, k.B, left)
		if !ok {
			return api.Node{}, nil, false
		}
		n.Kids, classes, ahead = append(n.Kids, kid), append(classes, below...), k.B
	}
}

// holdAny asks for the tree of facts: of all that can be grown from them, the one that has just these facts. Whether there is one.
func holdAny(t *testing.T, l []fact.Fact) bool {
	t.Helper()
	s := set(l)
	for _, f := range s {
		left := len(s)
		n, classes, ok := grown(s, f.Class, &left)
		if !ok || f.Sort != 1 || !right(classes, len(classes)) {
			continue
		}
		if own, _ := facts(n, classes, 0); slices.Equal(set(own), s) {
			holdFacts(t, l, n, classes)
			return true
		}
	}
	wrong(t, l...)
	return false
}

// rows are all rows of trees that have so many nodes in all.
func rows(size int, words []api.Node) [][]api.Node {
	if size == 0 {
		return [][]api.Node{nil}
	}
	var l [][]api.Node
	for first := 1; first <= size; first++ {
		for _, n := range trees(first, words) {
			for _, others := range rows(size-first, words) {
				l = append(l, append([]api.Node{n}, others...))
			}
		}
	}
	return l
}

// trees are all trees of so many nodes, each of them one of the words with Kids of its own.
func trees(size int, words []api.Node) []api.Node {
	var l []api.Node
	for _, kids := range rows(size-1, words) {
		for _, n := range words {
			n.Kids = kids
			l = append(l, n)
		}
	}
	return l
}

// lists are all lists of so many numbers, each from least on and below end.
func lists(size, least, end int) [][]int {
	l := [][]int{nil}
	for range size {
		var longer [][]int
		for _, head := range l {
			for n := least; n < end; n++ {
				longer = append(longer, append(slices.Clone(head), n))
			}
		}
		l = longer
	}
	return l
}

// P13.2, P13.3, P13.5: all small trees, by all short lists of small classes, right and wrong ones.
func TestAllTrees(t *testing.T) {
	words := []api.Node{{}, {Kind: 1, Text: "a"}}
	for size := 1; size <= 4; size++ {
		for _, n := range trees(size, words[:2-size/4]) {
			for length := size - 1; length <= size+1; length++ {
				for _, classes := range lists(length, -1, 4) {
					holdTree(t, n, classes)
				}
			}
		}
	}
}

// P13.3: two words, and all sets of a few links of their classes.
func TestAllLinks(t *testing.T) {
	trees := 0
	var all []fact.Fact
	for _, l := range lists(3, -1, 2) {
		if l[0] >= 0 {
			all = append(all, link(l[0], l[1], l[2]))
		}
	}
	for pick := range 1 << len(all) {
		if bits.OnesCount(uint(pick)) > 4 {
			continue
		}
		l := words(2)
		for i, f := range all {
			if pick>>i&1 == 1 {
				l = append(l, f)
			}
		}
		if holdAny(t, l) {
			trees++
		}
	}
	if trees != 2 { // either below the other
		t.Error(trees)
	}
}

// follows are all ways to say of a class who follows the front, and each of three Kids: a Kid, the end (3), none (4); by how many are said.
func follows() [5][][]int {
	var l [5][][]int
	for _, way := range lists(4, 0, 5) {
		if way[0] == 4 || way[1] == 0 || way[2] == 1 || way[3] == 2 {
			continue
		}
		said := 4
		for _, next := range way {
			said -= next / 4
		}
		l[said] = append(l[said], way)
	}
	return l
}

// P13.3: three words, and all sets of five links of which no two say of one class who stands behind the same one.
func TestAllRows(t *testing.T) {
	trees := 0
	ways := follows()
	for _, said := range [][3]int{{1, 1, 3}, {1, 3, 1}, {3, 1, 1}, {1, 2, 2}, {2, 1, 2}, {2, 2, 1}} {
		for _, a := range ways[said[0]] {
			for _, b := range ways[said[1]] {
				for _, c := range ways[said[2]] {
					l := words(3)
					for class, follows := range [][]int{a, b, c} {
						for i, next := range follows {
							if next < 4 {
								l = append(l, link(class, i-1, []int{0, 1, 2, -1}[next]))
							}
						}
					}
					if holdAny(t, l) {
						trees++
					}
				}
			}
		}
	}
	// All ways to number the places of a node with two Kids, and of one below one below one.
	if trees != 6+6 {
		t.Error(trees)
	}
}

// P13.3, P13.4: all subsets of a few facts; of any two of them what is in both, in the first alone, in one or both.
func TestAllSets(t *testing.T) {
	all := []fact.Fact{word(0, 1, "", ""), word(0, 1, "", "a"), word(1, 1, "", ""), link(0, -1, -1), link(0, -1, 1), link(0, 1, -1), link(1, -1, -1)}
	subset := func(pick int) []fact.Fact {
		var l []fact.Fact
		for i, f := range all {
			if pick>>i&1 == 1 {
				l = append(l, f)
			}
		}
		return l
	}
	trees := 0
	for a := range 1 << len(all) {
		if holdAny(t, subset(a)) {
			trees++
		}
		for b := range 1 << len(all) {
			first, second := subset(a), subset(b)
			for _, l := range []struct{ got, want []fact.Fact }{
				{fact.Both(first, second), subset(a & b)}, {fact.Minus(first, second), subset(a &^ b)}, {fact.Any(first, second), subset(a | b)},
			} {
				if !slices.Equal(l.got, set(l.want)) {
					t.Fatal(first, second, l)
				}
			}
		}
	}
	// One node, 0 in two ways or 1, or 1 below 0 in two ways.
	if trees != 3+2 {
		t.Error(trees)
	}
}

// maker makes trees and facts by chance.
type maker struct{ *rand.Rand }

// node is a tree of at most so many nodes, so deep.
func (m maker) node(left *int, room int) api.Node {
	*left--
	texts := []string{"", "", "a", "b", "1 ", "a\x00"}
	n := api.Node{Kind: m.Intn(3), Text: texts[m.Intn(len(texts))]}
	if m.Intn(5) == 0 {
		n.Trail = texts[m.Intn(len(texts))]
	}
	for room > 0 && *left > 0 && m.Intn(4) != 0 {
		n.Kids = append(n.Kids, m.node(left, room-1))
	}
	return n
}

// classes are some for so many places, one for each.
func (m maker) classes(size int) []int {
	l := m.Perm(size + m.Intn(4))[:size]
	if m.Intn(4) == 0 {
		for i := range l {
			l[i] = math.MaxInt - l[i]
		}
	}
	return l
}

// mixed are l's facts, in other turns, some of them twice.
func (m maker) mixed(l []fact.Fact) []fact.Fact {
	var mixed []fact.Fact
	for _, i := range m.Perm(len(l)) {
		mixed = append(mixed, l[i])
		if m.Intn(3) == 0 {
			mixed = append(mixed, l[m.Intn(len(l))])
		}
	}
	return mixed
}

// some makes trees by chance, with classes.
func some(count int, hold func(m maker, n api.Node, classes []int)) {
	for seed := range count {
		m := maker{rand.New(rand.NewSource(int64(seed)))}
		left := 1 + m.Intn(40)
		n := m.node(&left, 1+m.Intn(7))
		hold(m, n, m.classes(tree.Size(n)))
	}
}

// P13.2, P13.3, P13.5: trees by chance; with one class that is wrong; in any turn; with one fact less, or changed, or more.
func TestByChance(t *testing.T) {
	trees := 0
	some(400, func(m maker, n api.Node, classes []int) {
		l := holdTree(t, n, classes)
		holdFacts(t, m.mixed(l), n, classes)
		other := slices.Clone(classes)
		other[m.Intn(len(other))] = other[m.Intn(len(other))] - m.Intn(2)
		holdTree(t, n, other)
		for i := range l {
			wrong(t, slices.Delete(slices.Clone(l), i, i+1)...)
		}
		for range max(0, 20-len(l)/4) {
			changed := slices.Clone(l)
			f := &changed[m.Intn(len(l))]
			at := []*int{&f.Sort, &f.Class, &f.A, &f.B, &f.Kind}[m.Intn(5)]
			*at = []int{*at - 1, *at + 1, classes[m.Intn(len(classes))], -1}[m.Intn(4)]
			if holdAny(t, changed) {
				trees++
			}
			holdAny(t, append(changed, l[m.Intn(len(l))]))
			holdAny(t, append(l[:len(l):len(l)], *f))
		}
	})
	if trees < 300 {
		t.Error(trees)
	}
}

// P13.4: facts of two trees that share some.
func TestSetsByChance(t *testing.T) {
	shared := 0
	some(1000, func(m maker, n api.Node, classes []int) {
		a := holdTree(t, n, classes)
		b := slices.Clone(a)
		left := 10
		other := m.node(&left, 3)
		b = append(b[:m.Intn(len(b)+1)], holdTree(t, other, m.classes(tree.Size(other)))...)
		in := func(l []fact.Fact, is bool) func(f fact.Fact) bool {
			return func(f fact.Fact) bool { return slices.Contains(l, f) == is }
		}
		drop := func(l []fact.Fact, is func(f fact.Fact) bool) []fact.Fact {
			return set(slices.DeleteFunc(slices.Clone(l), is))
		}
		both := fact.Both(m.mixed(a), m.mixed(b))
		shared += len(both)
		if !slices.Equal(both, drop(a, in(b, false))) {
			t.Fatal(a, b, both)
		}
		if got := fact.Minus(m.mixed(a), m.mixed(b)); !slices.Equal(got, drop(a, in(b, true))) {
			t.Fatal(a, b, got)
		}
		if got := fact.Any(m.mixed(a), m.mixed(b)); !slices.Equal(got, set(slices.Concat(a, b))) {
			t.Fatal(a, b, got)
		}
	})
	if shared < 1000 {
		t.Error(shared)
	}
}

// P13.2, P13.3, P13.5: a program's facts, and a part's.
func TestProgram(t *testing.T) {
	n, _, e := parse.Parse([]byte("package p\nimport \"a\"\nfunc (r *t) f(a int, b []string) int { // n\n if a > 1 { return a + 2 } else { x[1] += f(r.b) }\n}\nconst c = -1 // m"))
	if e != api.OK {
		t.Fatal(e)
	}
	classes := make([]int, tree.Size(n))
	for at := range classes {
		classes[at] = (at*7 + 3) % len(classes)
	}
	if len(classes)%7 == 0 {
		t.Fatal("classes that stand twice")
	}
	holdTree(t, n, classes)
	for _, kid := range n.Kids {
		holdTree(t, kid, classes[:tree.Size(kid)])
	}
}

// P1, P13.1, P13.3, P13.4: garbage of all kinds.
func TestGarbage(t *testing.T) {
	numbers := []int{math.MinInt, -2, -1, -1, 0, 0, 0, 1, 1, 2, 3, math.MaxInt}
	texts := []string{"", "", "", "a", "\x00", "\xff"}
	for seed := range 3000 {
		m := maker{rand.New(rand.NewSource(int64(seed)))}
		number := func() int { return numbers[m.Intn(len(numbers))] }
		text := func() string { return texts[m.Intn(len(texts))] }
		garbage := func() []fact.Fact {
			var l []fact.Fact
			for range m.Intn(12) {
				l = append(l, fact.Fact{Sort: number(), Class: number(), A: number(), B: number(), Kind: number(), Text: text(), Trail: text()})
			}
			return l
		}
		a, b := garbage(), garbage()
		holdAny(t, a)
		for i := range a {
			if a[i].Sort != 1 {
				a[i] = link(a[i].Class, a[i].A, a[i].B)
			} else {
				a[i] = word(a[i].Class, a[i].Kind, a[i].Text, a[i].Trail)
			}
		}
		holdAny(t, a)
		if got := fact.Set(a); !slices.Equal(got, set(a)) {
			t.Fatal(a, got)
		}
		if got := fact.Any(fact.Minus(a, b), fact.Both(b, b)); !slices.Equal(got, set(slices.Concat(a, b))) {
			t.Fatal(a, b, got)
		}
	}
}
