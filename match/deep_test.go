package match_test

import (
	"fmt"
	"runtime/debug"
	"testing"

	"scarf/api"
	"scarf/match"
)

// sum is a long one, nested by its first Kids, with that operator at the innermost place.
func sum(terms int, first string) api.Node {
	n := node(api.KBinary, first, node(api.KName, "a"), node(api.KName, "b"))
	for i := range terms {
		n = node(api.KBinary, "+", n, node(api.KInt, fmt.Sprint(i%10)))
	}
	return n
}

// nested is a node within so many others, with leaves ahead of it in each.
func nested(deep int, innermost api.Node) api.Node {
	n := innermost
	for range deep {
		n = node(api.KCall, "", node(api.KName, "f"), n)
	}
	return n
}

// wide is a row of so many Kids.
func wide(count int, kid func(i int) api.Node) api.Node {
	n := node(api.KBlock, "")
	for i := range count {
		n.Kids = append(n.Kids, kid(i))
	}
	return n
}

// holdMatch asks for a match, with at least so many pairs.
func holdMatch(t *testing.T, least int, a, b api.Node) {
	t.Helper()
	l, e := match.Of(a, b)
	if e != api.OK || !match.Right(a, b, l) || len(l) < least {
		t.Fatal(len(l), e)
	}
}

// P11.1, P1: long sums are nested by first Kids, far deeper than calls may be within one another.
func TestLongSums(t *testing.T) {
	defer debug.SetMaxStack(debug.SetMaxStack(1 << 19))
	a, b := sum(9998, "+"), sum(9998, "-")
	holdMatch(t, 19999, a, a)
	holdMatch(t, 19999, a, b)
	holdMatch(t, 19000, a, sum(9950, "-"))
	long := sum(1<<17, "+")
	if l, e := match.Of(long, a); e != api.ErrLong || len(l) > 0 {
		t.Error(e)
	}
	if l, e := match.Of(a, long); e != api.ErrLong || len(l) > 0 {
		t.Error(e)
	}
	if !match.Right(long, long, [][2]int{{0, 0}, {1 << 18, 1 << 18}}) {
		t.Error("Right")
	}
}

// P11.1, P1: deep trees, the same, changed at the innermost place, and of one level more.
func TestDeep(t *testing.T) {
	x, y := node(api.KName, "x"), node(api.KName, "y")
	a := nested(9999, x)
	holdMatch(t, 19999, a, nested(9999, x))
	holdMatch(t, 19999, a, nested(9999, y))
	holdMatch(t, 19000, a, nested(9998, x))
	holdMatch(t, 1, a, nested(9998, node(api.KInt, "1")))
	deep := nested(1<<16, x)
	if !match.Right(deep, deep, [][2]int{{0, 0}, {1 << 17, 1 << 17}}) || match.Right(deep, deep, [][2]int{{0, 0}, {1 << 17, 1<<17 - 2}}) {
		t.Error("Right")
	}
}

// P11.1: long rows that are the same but for some, and rows in which few Kids are unlike, or all.
func TestWide(t *testing.T) {
	leaf := func(i int) api.Node { return node(api.KName, fmt.Sprint(i)) }
	a := wide(19999, leaf)
	holdMatch(t, 20000, a, wide(19999, leaf))
	holdMatch(t, 19000, a, wide(19999, func(i int) api.Node { return leaf(i + 999) }))
	holdMatch(t, 19000, a, wide(19999, func(i int) api.Node { return leaf((i + 5000) % 19999) }))
	holdMatch(t, 10000, a, wide(10000, func(i int) api.Node { return leaf(2 * i) }))
	holdMatch(t, 2, a, node(api.KBlock, "", append(wide(19998, func(i int) api.Node { return node(api.KInt, "1") }).Kids, a.Kids[7])...))
	few := func(i int) api.Node { return leaf(i % 3) }
	holdMatch(t, 15000, wide(19999, few), wide(19998, func(i int) api.Node { return few(i * i) }))
	holdMatch(t, 1, wide(19999, few), node(api.KBlock, ""))
}

// P11.1: a file of many items, in the same order and turned round, some of them changed.
func TestManyItems(t *testing.T) {
	const all = 6000
	items := func(from int, text func(i int) string) api.Node {
		n := node(api.KFile, "", node(api.KPackage, "p"))
		for i := range all {
			number := (from + i) % all
			n.Kids = append(n.Kids, node(api.KConst, fmt.Sprintf("c%d", number), node(api.KInt, text(number))))
		}
		return n
	}
	one := func(i int) string { return "1" }
	some := func(i int) string { return fmt.Sprint(1 + i%7/6) }
	for _, from := range []int{0, 1, 3000, all - 1} {
		l, e := match.Of(items(0, one), items(from, some))
		if e != api.OK || !match.Right(items(0, one), items(from, some), l) {
			t.Fatal(from, e)
		}
		partner := map[int]int{}
		for _, pair := range l {
			partner[pair[0]] = pair[1]
		}
		for i := range all {
			x, y := 2+2*i, 2+2*((i+all-from)%all)
			if partner[x] != y || some(i) == "1" && partner[x+1] != y+1 {
				t.Fatal(from, i, partner[x], partner[x+1])
			}
		}
	}
}
