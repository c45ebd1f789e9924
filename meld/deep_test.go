package meld_test

import (
	"fmt"
	"runtime/debug"
	"slices"
	"testing"

	"scarf/api"
	"scarf/fact"
	"scarf/meld"
	"scarf/tree"
)

// sum is a file of a constant of so many terms, nested by first Kids, with those words at the innermost and at the outermost place.
func sum(terms int, first, last string) api.Node {
	n := node(api.KName, first)
	for i := range terms {
		n = node(api.KBinary, "+", n, node(api.KInt, fmt.Sprint(i%10)))
	}
	n = node(api.KBinary, "+", n, node(api.KName, last))
	return node(api.KFile, "", node(api.KPackage, "p"), node(api.KConst, "a", n))
}

// nested is a file of a type within so many others.
func nested(levels int, first, last string) api.Node {
	n := node(api.KMap, "", node(api.KName, last), node(api.KName, "y"))
	for range levels {
		n = node(api.KMap, "", node(api.KName, "x"), n)
	}
	n = node(api.KMap, "", node(api.KName, first), n)
	return node(api.KFile, "", node(api.KPackage, "p"), node(api.KType, "a", n))
}

// wide is a file of so many constants, of which those with these numbers are changed.
func wide(count int, changed ...int) api.Node {
	n := node(api.KFile, "", node(api.KPackage, "p"))
	for i := range count {
		n.Kids = append(n.Kids, node(api.KConst, fmt.Sprint("c", i), node(api.KInt, fmt.Sprint(i%7))))
	}
	for _, i := range changed {
		n.Kids[i+1].Kids[0] = node(api.KName, "new")
	}
	return n
}

// asks asks for the merge of great trees: this one; the zero Node, if there is none.
func asks(t *testing.T, b, o, th, want api.Node) {
	t.Helper()
	for _, l := range [][2]api.Node{{o, th}, {th, o}} {
		n, ok, e := meld.Merge(b, l[0], l[1])
		if e != api.OK || ok != (want.Kind > 0) || !tree.Same(n, want) {
			t.Error(tree.Size(n), ok, e)
		}
	}
}

// P14.2, P1: long sums are nested by first Kids, far deeper than calls may be within one another.
func TestLongSums(t *testing.T) {
	defer debug.SetMaxStack(debug.SetMaxStack(1 << 19))
	const most = 9997
	b, o, th := sum(most, "a", "b"), sum(most, "z", "b"), sum(most, "a", "z")
	asks(t, b, o, th, sum(most, "z", "z"))
	asks(t, b, o, sum(most, "y", "b"), api.Node{})
	asks(t, b, o, b, o)
	if n, ok, e := meld.Merge(b, o, sum(most+1, "a", "b")); ok || e != api.ErrLong || n.Kids != nil {
		t.Error(ok, e)
	}
}

// P14.1, P1: facts of sums that no limit bounds, whole ones and such as lack one.
func TestLongFacts(t *testing.T) {
	defer debug.SetMaxStack(debug.SetMaxStack(1 << 19))
	var of [3][]fact.Fact
	for i, n := range []api.Node{sum(1<<15, "a", "b"), sum(1<<15, "z", "b"), sum(1<<15, "a", "z")} {
		classes := make([]int, tree.Size(n))
		for at := range classes {
			classes[at] = 2 * at
		}
		of[i], _ = fact.Of(n, classes)
	}
	l := meld.Of(of[0], of[1], of[2])
	if n, ok := meld.Sound(l); !ok || !tree.Same(n, sum(1<<15, "z", "z")) {
		t.Error(tree.Size(n), ok)
	}
	unsound(t, l[1:])
	unsound(t, slices.Delete(l, len(l)/2, len(l)/2+1))
}

// P14.2: types as deep as they may be.
func TestDeep(t *testing.T) {
	const most = api.MaxDeep - 2
	b, o, th := nested(most, "a", "b"), nested(most, "z", "b"), nested(most, "a", "z")
	asks(t, b, o, th, nested(most, "z", "z"))
	hold(t, b, o, th)
	deeper := nested(most+1, "a", "b")
	asks(t, deeper, deeper, deeper, api.Node{})
	asks(t, deeper, b, b, b)
}

// P14.1, P1: facts of a tree far deeper than a program may be, and of a ring that goes round through many classes.
func TestTooDeep(t *testing.T) {
	var l, ring []fact.Fact
	const count = 1 << 16
	for i := range count {
		l = append(append(l, word(i, api.KPtr, "", "")), row(i, i+1)...)
		ring = append(append(ring, word(i, api.KPtr, "", "")), row(i, (i+1)%count)...)
	}
	unsound(t, append(append(l, word(count, api.KName, "x", "")), row(count)...))
	unsound(t, ring)
}

// P14.2, P14.3: many items, each changed by one side at most; put in, and taken out.
func TestWide(t *testing.T) {
	const count = 9990
	b := wide(count)
	var ours, theirs, all []int
	for i := range count {
		switch i % 3 {
		case 0:
			ours, all = append(ours, i), append(all, i)
		case 1:
			theirs, all = append(theirs, i), append(all, i)
		}
	}
	o, th := wide(count, ours...), wide(count, theirs...)
	asks(t, b, o, th, wide(count, all...))
	asks(t, b, o, wide(count, 3), o)
	less := wide(count, theirs...)
	less.Kids = slices.Delete(less.Kids, 1, 2) // the first item, which ours changes
	asks(t, b, o, less, api.Node{})
	less = wide(count, theirs...)
	less.Kids = slices.Delete(less.Kids, 3, 4) // the third one, which nobody changes
	want := wide(count, all...)
	want.Kids = slices.Delete(want.Kids, 3, 4)
	asks(t, b, o, less, want)
}
