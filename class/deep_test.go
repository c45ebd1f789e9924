package class_test

import (
	"fmt"
	"runtime/debug"
	"testing"

	"scarf/api"
	"scarf/class"
)

// sum is a long one, nested by its first Kids, with that operator at the innermost place.
func sum(terms int, first string) api.Node {
	n := node(api.KBinary, first, node(api.KName, "a"), node(api.KName, "b"))
	for i := range terms {
		n = node(api.KBinary, "+", n, node(api.KInt, fmt.Sprint(i%10)))
	}
	return n
}

// nested is a node within so many others, with leaves ahead of it in each.
func nested(deep int, innermost api.Node) api.Node {
	n := innermost
	for range deep {
		n = node(api.KCall, "", node(api.KName, "f"), n)
	}
	return n
}

// wide is a row of so many Kids.
func wide(count int, kid func(i int) api.Node) api.Node {
	n := node(api.KBlock, "")
	for i := range count {
		n.Kids = append(n.Kids, kid(i))
	}
	return n
}

// classes asks for classes; how many there are in all, and how many of them O and T share that B hasn't.
func classes(t *testing.T, b, o, th api.Node) (all, shared int) {
	t.Helper()
	got, e := class.Of(b, o, th)
	if e != api.OK {
		t.Fatal(e)
	}
	holdKinds(t, got, b, o, th)
	ours := map[int]int{}
	for _, c := range got[1] {
		ours[c]++
		all = max(all, c+1)
	}
	for _, c := range got[2] {
		if c >= len(got[0]) {
			shared += ours[c]
		}
		all = max(all, c+1)
	}
	return max(all, len(got[0])), shared
}

// asks asks for so many classes in all, of which O and T share so many that B hasn't.
func asks(t *testing.T, all, shared int, b, o, th api.Node) {
	t.Helper()
	if a, s := classes(t, b, o, th); a != all || s != shared {
		t.Errorf("%d classes, %d shared, not %d, %d", a, s, all, shared)
	}
}

// P12.1, P1: long sums are nested by first Kids, far deeper than calls may be within one another.
func TestLongSums(t *testing.T) {
	defer debug.SetMaxStack(debug.SetMaxStack(1 << 19))
	a, b := sum(9998, "+"), sum(9998, "-")
	holdLong := func(base, o, th api.Node, shared int) {
		t.Helper()
		got, e := class.Of(base, o, th)
		if e != api.OK || len(got[1]) != 19999 || len(got[2]) != 19999 {
			t.Fatal(len(got[1]), len(got[2]), e)
		}
		same := 0
		for at, c := range got[1] {
			if c >= len(got[0]) && c == got[2][at] {
				same++
			}
		}
		if same != shared {
			t.Error(same, shared)
		}
	}
	holdLong(a, a, a, 0)
	holdLong(a, b, b, 0)
	holdLong(node(api.KBinary, ""), a, a, 19998)
	holdLong(node(api.KBinary, ""), a, b, 1) // the outermost number: what it stands beside isn't alike
	long := sum(1<<17, "+")
	for _, l := range [][3]api.Node{{long, a, a}, {a, long, a}, {a, a, long}, {long, long, long}} {
		wrong(t, api.ErrLong, l[0], l[1], l[2])
	}
}

// P12.1, P1: deep trees, the same, changed at the innermost place, and new to both sides.
func TestDeep(t *testing.T) {
	x, y := node(api.KName, "x"), node(api.KInt, "1")
	a := nested(9999, x)
	asks(t, 19999, 0, a, a, nested(9999, x))
	asks(t, 20000, 1, a, nested(9999, y), nested(9999, y))
	asks(t, 19999, 19998, node(api.KCall, ""), a, a)
	// The outermost leaves are alike; what they stand beside isn't.
	asks(t, 19999+19997, 1, node(api.KCall, ""), a, nested(9999, y))
}

// P12.1: long rows that are new to both sides.
func TestWide(t *testing.T) {
	leaf := func(i int) api.Node { return node(api.KName, fmt.Sprint(i)) }
	few := func(i int) api.Node { return leaf(i % 3) }
	one := func(int) api.Node { return leaf(0) }
	row, base := wide(19999, leaf), node(api.KBlock, "")
	asks(t, 20000, 0, row, row, row)
	asks(t, 20000, 19999, base, row, row)
	asks(t, 20000, 19999, base, row, wide(19999, func(i int) api.Node { return leaf(19998 - i) }))
	asks(t, 20999, 19000, base, row, wide(19999, func(i int) api.Node { return leaf(i + 999) }))
	asks(t, 20000, 10000, base, row, wide(10000, func(i int) api.Node { return leaf(2 * i) }))
	asks(t, 20000, 19999, base, wide(19999, few), wide(19999, few))
	asks(t, 20000, 10000, base, wide(19999, one), wide(10000, one))
	asks(t, 20000, 13332, base, wide(19998, few), wide(13333, func(i int) api.Node { return leaf(i % 2) }))
}
