package match_test

import (
	"math"
	"testing"

	"scarf/api"
	"scarf/match"
)

// lists are all lists of so many pairs of numbers from -1 on, up to that one.
func lists(pairs, most int) [][][2]int {
	if pairs == 0 {
		return [][][2]int{nil}
	}
	var l [][][2]int
	for _, ahead := range lists(pairs-1, most) {
		for x := -1; x <= most; x++ {
			for y := -1; y <= most; y++ {
				l = append(l, append(ahead[:len(ahead):len(ahead)], [2]int{x, y}))
			}
		}
	}
	return l
}

// P11.2: all lists of up to three pairs, of places that are there and next to them, for trees of up to three nodes.
func TestRightAll(t *testing.T) {
	x, y := node(api.KName, "x"), node(api.KInt, "1")
	trees := []api.Node{
		x, y, node(api.KName, "y"), node(api.KName, "", x), node(api.KName, "", y), node(api.KName, "", x, x), node(api.KName, "", x, y),
		node(api.KName, "", y, x), node(api.KName, "", node(api.KInt, "", x)), node(api.KName, "", node(api.KName, "", y)),
	}
	right := 0
	for pairs := range 4 {
		for _, l := range lists(pairs, 3) {
			for _, a := range trees {
				for _, b := range trees {
					got := match.Right(a, b, l)
					if got != isMatch(a, b, l) {
						t.Fatal(a, b, l, got)
					}
					if got {
						right++
					}
				}
			}
		}
	}
	if right < 150 {
		t.Error(right)
	}
}

// P11.2: the edges by name.
func TestRightEdges(t *testing.T) {
	x := node(api.KName, "x")
	a := node(api.KCall, "", x, x, node(api.KInt, "1"))
	b := node(api.KCall, "", x, x, x, node(api.KInt, "2"))
	whole := [][2]int{{0, 0}, {1, 3}, {2, 1}, {3, 4}}
	for _, c := range []struct {
		name  string
		l     [][2]int
		right bool
	}{
		{"no pair", nil, false},
		{"no pair, not nil", [][2]int{}, false},
		{"the roots", [][2]int{{0, 0}}, true},
		{"crossing", whole, true},
		{"without the roots", whole[1:], false},
		{"the first root with another one", [][2]int{{0, 1}, {1, 0}}, false},
		{"the roots behind", [][2]int{{1, 1}, {0, 0}}, false},
		{"out of order", [][2]int{{0, 0}, {2, 1}, {1, 2}}, false},
		{"a pair twice", [][2]int{{0, 0}, {1, 1}, {1, 1}}, false},
		{"the roots twice", [][2]int{{0, 0}, {0, 0}}, false},
		{"a first place twice", [][2]int{{0, 0}, {1, 1}, {1, 2}}, false},
		{"a second place twice", [][2]int{{0, 0}, {1, 1}, {2, 1}}, false},
		{"the second root twice", [][2]int{{0, 0}, {1, 0}}, false},
		{"unlike kinds", [][2]int{{0, 0}, {1, 4}}, false},
		{"below 0", [][2]int{{-1, 0}, {0, 0}}, false},
		{"a second one below 0", [][2]int{{0, 0}, {1, -1}}, false},
		{"behind the last", [][2]int{{0, 0}, {4, 1}}, false},
		{"a second one behind the last", [][2]int{{0, 0}, {1, 5}}, false},
		{"far ahead", [][2]int{{math.MinInt, math.MinInt}, {0, 0}}, false},
		{"far behind", [][2]int{{0, 0}, {math.MaxInt, math.MaxInt}}, false},
		{"second ones far off", [][2]int{{0, 0}, {1, math.MaxInt}, {2, math.MinInt}}, false},
	} {
		if match.Right(a, b, c.l) != c.right {
			t.Error(c.name)
		}
	}
	if match.Right(a, x, [][2]int{{0, 0}}) || !match.Right(api.Node{}, api.Node{}, [][2]int{{0, 0}}) || match.Right(api.Node{}, api.Node{}, nil) {
		t.Error("roots")
	}
}

// P11.2: trees of more than 20000 nodes have matches, too.
func TestRightLong(t *testing.T) {
	const wide = 1 << 18
	a := full(wide)
	l := make([][2]int, wide)
	for i := range l {
		l[i] = [2]int{i, (wide - i) % wide} // Kids the other way round
	}
	if !match.Right(a, a, l) || match.Right(a, full(wide-1), l) || match.Right(full(wide-1), a, l) || !match.Right(a, full(wide+1), l) {
		t.Error("wide")
	}
	l[wide-1][1] = 2
	if match.Right(a, a, l) {
		t.Error("a second place twice")
	}
	if match.Right(api.Node{}, api.Node{}, l) || match.Right(a, api.Node{}, l) {
		t.Error("one node")
	}
}
