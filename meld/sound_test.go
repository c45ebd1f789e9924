package meld_test

import (
	"math"
	"slices"
	"testing"

	"scarf/api"
	"scarf/fact"
	"scarf/tree"
)

// P14.1: a program's facts are sound, in any turn, by any classes; with one less, or one more, they aren't.
func TestSound(t *testing.T) {
	for _, n := range []api.Node{
		program(t), program(t, "const a = f(1) // t"), program(t, `import "a"`, "// n", "func (r *t) f(a int) b { if a { return x, 1 } else { y[2] += -z.w } }"),
	} {
		size := tree.Size(n)
		classes := make([]int, size)
		for at := range classes {
			classes[at] = 5 * (size - at)
		}
		l, _ := facts(n, classes, 0)
		holdSound(t, l, n)
		slices.Reverse(l)
		holdSound(t, append(l, l[:len(l)/2]...), n)
		for i, f := range l {
			unsound(t, slices.Delete(slices.Clone(l), i, i+1))
			f.Class++
			unsound(t, append(l[:len(l):len(l)], f))
			f = l[i]
			f.Text += "x"
			unsound(t, append(l[:len(l):len(l)], f))
		}
	}
}

// P14.1: no facts, and such as are no tree's.
func TestNoTree(t *testing.T) {
	unsound(t, nil)
	unsound(t, []fact.Fact{})
	unsound(t, []fact.Fact{{}})
	l, _ := facts(program(t), []int{0, 1}, 0)
	holdSound(t, l, program(t))
	for _, f := range []fact.Fact{
		word(0, api.KBlock, "", ""), word(1, api.KPackage, "q", ""), word(1, api.KPackage, "p", "// t"), word(2, api.KNote, "//", ""),
		row(2)[0], row(0)[0], row(1, 0)[0], row(1, 0)[1], row(0, 1, 2)[1], row(0, 2)[0],
		{Sort: 3}, {Sort: math.MinInt, Class: math.MinInt, A: math.MinInt, B: math.MinInt, Kind: math.MinInt}, {Sort: 1, Class: -1, Kind: 2, Text: "p"},
	} {
		unsound(t, append(l[:len(l):len(l)], f))
	}
	note := append([]fact.Fact{word(2, api.KNote, "//", ""), word(0, api.KFile, "", ""), word(1, api.KPackage, "p", "")}, slices.Concat(row(2), row(1))...)
	holdSound(t, slices.Concat(note, row(0, 1, 2)), node(api.KFile, "", node(api.KPackage, "p"), node(api.KNote, "//")))
	holdSound(t, slices.Concat(note, row(0, 2, 1)), node(api.KFile, "", node(api.KNote, "//"), node(api.KPackage, "p")))
	unsound(t, slices.Concat(note, row(0, 1, 2), row(0, 2, 1)))
	unsound(t, slices.Concat(note, row(0, 1)))
	unsound(t, slices.Concat(note, row(0, 1), row(2, 2)))
}

// P14.1: facts of a tree that isn't Right.
func TestNotRightTree(t *testing.T) {
	x := node(api.KName, "x")
	p := node(api.KPackage, "p")
	deep := func(levels int) api.Node {
		n := x
		for range levels {
			n = node(api.KPtr, "", n)
		}
		return node(api.KFile, "", p, node(api.KType, "a", n))
	}
	for _, c := range []struct {
		n     api.Node
		right bool
	}{
		{api.Node{}, false},
		{x, false},
		{p, false},
		{node(api.KFile, ""), false},
		{node(api.KFile, "", p), true},
		{node(api.KFile, "f", p), false},
		{api.Node{Kind: api.KFile, Trail: "// t", Kids: []api.Node{p}}, false},
		{node(api.KFile, "", p, p), false},
		{node(api.KFile, "", node(api.KPackage, "if")), false},
		{node(api.KFile, "", node(api.KConst, "a", x), p), false},
		{node(api.KFile, "", p, node(api.KConst, "a", x)), true},
		{node(api.KFile, "", p, node(api.KConst, "a")), false},
		{node(api.KFile, "", p, node(api.KConst, "a", x, x)), false},
		{node(api.KFile, "", p, node(api.KConst, "", x)), false},
		{node(api.KFile, "", p, node(api.KConst, "a", node(api.KPtr, "", x))), false},
		{node(api.KFile, "", p, node(api.KType, "a", node(api.KPtr, "", x))), true},
		{node(api.KFile, "", p, node(99, "a")), false},
		{deep(api.MaxDeep), true},
		{deep(api.MaxDeep + 1), false},
	} {
		classes := make([]int, tree.Size(c.n))
		for at := range classes {
			classes[at] = at
		}
		l, _ := facts(c.n, classes, 0)
		if c.right {
			holdSound(t, l, c.n)
		} else {
			unsound(t, l)
		}
	}
}
