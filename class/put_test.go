package class_test

import (
	"testing"

	"scarf/api"
	"scarf/class"
)

// x, y and z are leaves of unlike kinds, so that none is ever paired with one of the others.
var (
	x = node(9, "x")
	y = node(26, "1")
	z = node(27, "z")
)

// P12.1: the same item is put in by each side, once or more, in unlike numbers: as many as both put in are of one class.
func TestPutIn(t *testing.T) {
	b := node(17, "")
	row := func(kids ...api.Node) api.Node { return node(17, "", kids...) }
	want(t, b, row(x), row(x, x, x), []int{0, 1}, []int{0, 1, 2, 3})
	want(t, b, row(x, x, x), row(x), []int{0, 1, 2, 3}, []int{0, 1})
	want(t, b, row(x, x), row(x, x, x), []int{0, 1, 2}, []int{0, 1, 2, 3})
	want(t, b, row(x, y, x), row(y, x), []int{0, 1, 2, 3}, []int{0, 2, 1})
	want(t, b, row(x, y, x), row(y, x, z, x), []int{0, 1, 2, 3}, []int{0, 2, 1, 4, 3})
	want(t, b, row(x, y), row(z, y, x, z), []int{0, 1, 2}, []int{0, 3, 2, 1, 4})
	want(t, b, row(x), row(), []int{0, 1}, []int{0})
	want(t, b, row(), row(x, x), []int{0}, []int{0, 1, 2})
	want(t, b, row(x), row(y), []int{0, 1}, []int{0, 2})
}

// P12.1: Kids that have a partner in the base aren't counted, whichever of those alike they are.
func TestBesidePaired(t *testing.T) {
	one := node(17, "", x)
	got, e := class.Of(one, node(17, "", x, x), node(17, "", x, x, x))
	if e != api.OK || len(got[1]) != 3 || len(got[2]) != 4 {
		t.Fatal(got, e)
	}
	if shared := hold(t, one, node(17, "", x, x), node(17, "", x, x, x)); shared != 1 {
		t.Error(shared)
	}
	if shared := hold(t, one, node(17, "", x, y), node(17, "", y, x)); shared != 1 {
		t.Error(shared)
	}
	if shared := hold(t, one, node(17, "", x, x), node(17, "", y, y)); shared != 0 {
		t.Error(shared)
	}
	// The root's Text is of no account: it is paired all the same.
	if shared := hold(t, node(17, "a"), node(17, "b", x), node(17, "c", x)); shared != 1 {
		t.Error(shared)
	}
}

// P12.1: what is alike in all but its Trail, its Text, its Kids, isn't alike.
func TestUnlike(t *testing.T) {
	b := node(17, "")
	trail := x
	trail.Trail = "// n"
	for _, other := range []api.Node{trail, node(9, "y"), node(10, "x"), node(9, "x", y), node(9, "")} {
		if shared := hold(t, b, node(17, "", x), node(17, "", other)); shared != 0 {
			t.Error(other, shared)
		}
	}
	// Of nodes that aren't alike the Kids are of two classes, be they alike or not.
	if shared := hold(t, b, node(17, "", node(30, "", x, y)), node(17, "", node(30, "", x, z))); shared != 0 {
		t.Error(shared)
	}
	if shared := hold(t, b, node(17, "", node(30, "", x, y)), node(17, "", node(30, "", x, y))); shared != 3 {
		t.Error(shared)
	}
}

// P12.1: items put in that are alike are of two classes, if their parents are.
func TestUnderOtherParents(t *testing.T) {
	b := program(t, "func f() {}", "func g() {}", "func h(a int) { if a {} }")
	in := func(f, g, h string) api.Node {
		return program(t, "func f() { "+f+" }", "func g() { "+g+" }", "func h(a int) { if a { "+h+" } }")
	}
	for _, c := range []struct {
		o, t   api.Node
		shared int
	}{
		{in("x++", "", ""), in("", "x++", ""), 0},
		{in("x++", "", ""), in("x++", "", ""), 2},
		{in("x++", "x++", ""), in("", "x++", ""), 2},
		{in("x++", "x++", "x++"), in("x++", "x++", "x++"), 6},
		{in("x++; x++", "", ""), in("x++", "x++", ""), 2},
		{in("", "", "x++; x++"), in("y(); x++", "", "x++; y(); x++; x++"), 4},
		{in("", "", "x++"), in("x++", "x++", ""), 0},
	} {
		if shared := hold(t, b, c.o, c.t); shared != c.shared {
			t.Error(c, shared)
		}
	}
}

// P12.1: new nodes below new nodes: as far as their parents are of one class, all that is below them is.
func TestBelowNew(t *testing.T) {
	b := program(t, "const a = 1")
	for _, c := range []struct {
		o, t   []string
		shared int
	}{
		{[]string{"func f() { g(g(1)) }"}, []string{"func f() { g(g(1)) }"}, 11},
		{[]string{"func f() { g(g(1)) }"}, []string{"func f() { g(g(2)) }"}, 0},
		{[]string{"func f() {}", "func f() {}"}, []string{"func f() {}"}, 5},
		{[]string{"func f() {}", "func f() {}"}, []string{"func f() {}", "func g() {}", "func f() {}", "func f() {}"}, 10},
		{[]string{"// n"}, []string{"// n", "// n"}, 1},
		{[]string{`import "a"`}, []string{`import "b"`, `import "a"`}, 1},
	} {
		o, th := program(t, append(c.o, "const a = 1")...), program(t, append(c.t, "const a = 1")...)
		if shared := hold(t, b, o, th); shared != c.shared {
			t.Errorf("%q %q: %d shared, not %d", c.o, c.t, shared, c.shared)
		}
	}
}

// P12.1: what stands in the base has its class there, wherever one side has moved it.
func TestMoved(t *testing.T) {
	b := program(t, "const a = 1", "const b = 2", "const c = 3")
	o := program(t, "const c = 3", "const a = 1", "const b = 2")
	want(t, b, o, b, []int{0, 1, 6, 7, 2, 3, 4, 5}, []int{0, 1, 2, 3, 4, 5, 6, 7})
	want(t, b, b, o, []int{0, 1, 2, 3, 4, 5, 6, 7}, []int{0, 1, 6, 7, 2, 3, 4, 5})
	put := program(t, "const d = f(4)", "const b = 2", "const d = f(4)", "const a = 1", "const c = 3")
	want(t, b, o, put, []int{0, 1, 6, 7, 2, 3, 4, 5}, []int{0, 1, 8, 9, 10, 11, 4, 5, 12, 13, 14, 15, 2, 3, 6, 7})
	both := program(t, "const c = 3", "const d = f(4)", "const a = 1", "const b = 2")
	want(t, b, both, put, []int{0, 1, 6, 7, 8, 9, 10, 11, 2, 3, 4, 5}, []int{0, 1, 8, 9, 10, 11, 4, 5, 12, 13, 14, 15, 2, 3, 6, 7})
}
