package meld_test

import (
	"math"
	"math/rand"
	"slices"
	"testing"

	"scarf/api"
	"scarf/fact"
	"scarf/meld"
	"scarf/tree"
)

// subset are those of some facts whose bits are set.
func subset(all []fact.Fact, pick int) []fact.Fact {
	var l []fact.Fact
	for i, f := range all {
		if pick>>i&1 == 1 {
			l = append(l, f)
		}
	}
	return l
}

// P14.1: all subsets of a few facts, three by three.
func TestAllSets(t *testing.T) {
	all := []fact.Fact{word(0, 1, "", ""), word(0, 1, "", "a"), row(0)[0], row(0, 1)[0], {Sort: 7, Text: "odd"}}
	sets := 1 << len(all)
	for b := range sets {
		for o := range sets {
			for th := range sets {
				got := meld.Of(subset(all, b), subset(all, o), subset(all, th))
				if want := fact.Set(subset(all, o&th|o&^b|th&^b)); !slices.Equal(got, want) {
					t.Fatal(b, o, th, got, want)
				}
			}
		}
	}
}

// P14.1: lists of facts by chance, in any turn, some twice.
func TestListsByChance(t *testing.T) {
	for seed := range 3000 {
		r := rand.New(rand.NewSource(int64(seed)))
		list := func() []fact.Fact {
			var l []fact.Fact
			for range r.Intn(20) {
				l = append(l, fact.Fact{Sort: 1 + r.Intn(2), Class: r.Intn(3), A: r.Intn(2) - 1, Text: []string{"", "a"}[r.Intn(2)]})
			}
			return l
		}
		holdOf(t, list(), list(), list())
	}
}

// rows are all rows of so many items at most.
func rows(most int, items ...string) [][]string {
	all, last := [][]string{nil}, [][]string{nil}
	for range most {
		var longer [][]string
		for _, l := range last {
			for _, item := range items {
				longer = append(longer, append(slices.Clone(l), item))
			}
		}
		all, last = append(all, longer...), longer
	}
	return all
}

// holdAll asks for the merges of all of some trees, three by three; how many there are.
func holdAll(t *testing.T, all []api.Node) int {
	t.Helper()
	sound := 0
	for _, b := range all {
		for i, o := range all {
			holdSame(t, b, o)
			for _, th := range all[:i] { // hold turns both sides round
				if _, ok := hold(t, b, o, th); ok {
					sound++
				}
			}
		}
	}
	return sound
}

// P14.2, P14.3: all programs of up to two of these items, or statements, three by three.
func TestAllPrograms(t *testing.T) {
	var files, bodies []api.Node
	for _, l := range rows(2, "const a = 1", "const a = 2", "const b = 1") {
		files = append(files, program(t, l...))
	}
	for _, l := range rows(2, "x++", "y()", "if x { y() }") {
		n := node(api.KFile, "", node(api.KPackage, "p"), node(api.KFunc, "f", node(api.KNone, ""), node(api.KParams, ""), node(api.KNone, ""), node(api.KBlock, "")))
		for _, s := range l {
			f := program(t, "func f() { "+s+" }")
			n.Kids[1].Kids[3].Kids = append(n.Kids[1].Kids[3].Kids, f.Kids[1].Kids[3].Kids...)
		}
		bodies = append(bodies, n)
	}
	for _, all := range [][]api.Node{files, bodies} {
		if sound := holdAll(t, all); sound < len(all)*len(all) {
			t.Error(sound)
		}
	}
}

// P14.2, P14.3: small files that are no programs, and some that are, three by three.
func TestAllFiles(t *testing.T) {
	var all []api.Node
	kids := []api.Node{node(api.KPackage, "p"), node(api.KNote, "//"), {}}
	for _, l := range rows(3, "0", "1", "2") {
		n := node(api.KFile, "")
		for _, i := range l {
			n.Kids = append(n.Kids, kids[i[0]-'0'])
		}
		if len(l) < 3 || tree.Right(n) {
			all = append(all, n)
		}
	}
	if sound := holdAll(t, all); sound < len(all) {
		t.Error(sound)
	}
}

// P1, P14.1: garbage of all kinds; sound sets with one fact more, and with one changed.
func TestGarbage(t *testing.T) {
	n := program(t, "const a = f(1)", "func g() { x++ }")
	classes := rand.New(rand.NewSource(1)).Perm(tree.Size(n))
	whole, _ := facts(n, classes, 0)
	numbers := []int{math.MinInt, -2, -1, -1, 0, 0, 1, 1, 2, 3, math.MaxInt}
	texts := []string{"", "", "", "a", "p", "\x00", "\xff"}
	for seed := range 3000 {
		r := rand.New(rand.NewSource(int64(seed)))
		number := func() int { return numbers[r.Intn(len(numbers))] }
		garbage := func() fact.Fact {
			return fact.Fact{Sort: number(), Class: number(), A: number(), B: number(), Kind: number(), Text: texts[r.Intn(len(texts))], Trail: texts[r.Intn(len(texts))]}
		}
		var l []fact.Fact
		for range r.Intn(12) {
			l = append(l, garbage())
		}
		unsound(t, l)
		holdOf(t, l, append(l[:len(l)/2:len(l)/2], garbage()), append(l[len(l)/3:len(l):len(l)], garbage()))
		unsound(t, append(whole[:len(whole):len(whole)], garbage()))
		changed := slices.Clone(whole)
		f := &changed[r.Intn(len(whole))]
		*[]*int{&f.Sort, &f.Class, &f.A, &f.B}[r.Intn(4)] += 1 + r.Intn(3)
		unsound(t, changed)
	}
}

// P1, P14.2: garbage of trees, of one kind and of unlike kinds.
func TestGarbageTrees(t *testing.T) {
	kinds := []int{math.MinInt, -1, 0, 1, 2, 7, 8, 33, 34, math.MaxInt}
	for seed := range 700 {
		r := rand.New(rand.NewSource(int64(seed)))
		var garbage func(room int) api.Node
		garbage = func(room int) api.Node {
			n := api.Node{Kind: kinds[r.Intn(len(kinds))], Text: []string{"", "p", "\xff"}[r.Intn(3)], Trail: "//"[:r.Intn(3)]}
			for range r.Intn(room + 1) {
				n.Kids = append(n.Kids, garbage(room-1))
			}
			return n
		}
		b, o, th := garbage(4), garbage(4), garbage(4)
		hold(t, b, o, th)
		o.Kind = b.Kind
		hold(t, b, o, th)
		th.Kind = b.Kind
		hold(t, b, o, th)
		holdSame(t, b, th)
	}
}
