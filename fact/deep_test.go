package fact_test

import (
	"fmt"
	"runtime/debug"
	"slices"
	"strings"
	"testing"

	"scarf/api"
	"scarf/fact"
	"scarf/tree"
)

// sum is a long one, nested by its first Kids.
func sum(terms int) api.Node {
	n := node(api.KName, "a")
	for i := range terms {
		n = node(api.KBinary, "+", n, node(api.KInt, fmt.Sprint(i%10)))
	}
	return n
}

// nested is a node within so many others, with leaves ahead of it in each.
func nested(deep int) api.Node {
	n := node(api.KName, "x")
	for range deep {
		n = node(api.KCall, "", node(api.KName, "f"), n)
	}
	return n
}

// wide is a row of so many Kids.
func wide(count int) api.Node {
	n := node(api.KBlock, "")
	for i := range count {
		n.Kids = append(n.Kids, node(api.KName, fmt.Sprint(i%7)))
	}
	return n
}

// falling are classes for so many places.
func falling(size int) []int {
	l := make([]int, size)
	for at := range l {
		l[at] = 3 * (size - at)
	}
	return l
}

// thereAndBack asks for a tree's facts, and for the tree of them.
func thereAndBack(t *testing.T, n api.Node) {
	t.Helper()
	classes := falling(tree.Size(n))
	l, e := fact.Of(n, classes)
	// Each node has a word and ends a row; each but the root follows what is ahead of it.
	if e != api.OK || len(l) != 3*len(classes)-1 || !slices.IsSortedFunc(l, func(x, y fact.Fact) int {
		if fact.Less(x, y) {
			return -1
		}
		return 1
	}) {
		t.Fatal(len(l), e)
	}
	got, places, e := fact.Tree(l)
	if e != api.OK || !tree.Same(got, n) || !slices.Equal(places, classes) {
		t.Fatal(len(places), e)
	}
	wrong(t, slices.Concat(l[:len(l)/2], l[len(l)/2+1:])...)
	if len(fact.Both(l, l)) != len(l) || len(fact.Minus(l, l[1:])) != 1 || len(fact.Any(l[:len(l)/2], l[len(l)/3:])) != len(l) {
		t.Fatal("sets")
	}
	classes[len(classes)-1] = classes[0]
	if l, e := fact.Of(n, classes); len(l) != 0 || e != api.ErrArg {
		t.Fatal(len(l), e)
	}
}

// P13.2, P13.3, P1: long sums are nested by first Kids, far deeper than calls may be within one another.
func TestLongSums(t *testing.T) {
	defer debug.SetMaxStack(debug.SetMaxStack(1 << 19))
	thereAndBack(t, sum(300))
	thereAndBack(t, sum(1<<15))
}

// P13.2, P13.3, P1: deep trees and long rows.
func TestDeepAndWide(t *testing.T) {
	thereAndBack(t, nested(10000))
	thereAndBack(t, wide(1<<15))
}

// P13.3, P1: long rings, by themselves and beside a root, and rows that have no front.
func TestLongRings(t *testing.T) {
	const count = 1 << 16
	var ring, row []fact.Fact
	for i := range count {
		next := (i + 1) % count
		ring = append(ring, word(i, 1, "", ""), link(i, -1, next), link(i, next, -1))
		row = append(row, word(i, 1, "", ""), link(count, i, next))
		if i > 0 {
			row = append(row, link(i, -1, -1))
		}
	}
	wrong(t, ring...)
	one := []fact.Fact{word(count, 1, "", ""), link(count, -1, -1)}
	wrong(t, append(ring, one...)...)
	wrong(t, append(row, one...)...)
	wrong(t, append(row, one[0])...)
}

// P13.1, P1: long texts that differ at their ends.
func TestLongTexts(t *testing.T) {
	long := strings.Repeat("a", 1<<20)
	var l []fact.Fact
	for i := range 50 {
		l = append(l, word(i%2, 1, long+fmt.Sprint(i%25), long))
	}
	if got := fact.Set(l); !slices.Equal(got, set(l)) || len(got) != 50 {
		t.Error(len(got))
	}
}
