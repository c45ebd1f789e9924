package match_test

import (
	"math/rand"
	"testing"

	"scarf/api"
	"scarf/match"
)

// holdAnchors asks for P11.1 of two programs, either way round, and for so many anchors (KPackage is one).
func holdAnchors(t *testing.T, anchors int, a, b []string) {
	t.Helper()
	x, y := program(t, a...), program(t, b...)
	if got := hold(t, x, y); got != anchors {
		t.Errorf("%q %q: %d anchors", a, b, got)
	}
	if got := hold(t, y, x); got != anchors {
		t.Errorf("%q %q: %d anchors the other way round", a, b, got)
	}
}

// P11.1: items whose key each tree has once, the same and changed, in their order and in another one.
func TestAnchors(t *testing.T) {
	a := []string{"const a = 1", "var b = x + y", "type c struct { f int; g string }", "func d(p int) { p++; e(p) }"}
	changed := []string{"const a = f(1)", "var b int", "type c *x", "func d() int { for { break }; e(p) }"}
	holdAnchors(t, 5, a, a)
	holdAnchors(t, 5, a, changed)
	holdAnchors(t, 5, a, []string{a[3], a[1], a[0], a[2]})
	holdAnchors(t, 5, a, []string{changed[2], a[3], changed[1], a[0]})
	holdAnchors(t, 3, a, []string{a[3], "const new = 1", a[0]})
	holdAnchors(t, 1, a, nil)
	holdAnchors(t, 1, a, []string{"const b = 1", "var c = 1", "type d int", "func a() {}"})
}

// P11.1: a package is an anchor, whatever it is named; remarks and imports have no key.
func TestNoKey(t *testing.T) {
	holdAnchors(t, 1, []string{`import "a"`, "// n", "// n"}, []string{"// n", `import "b"`, `import "a"`, "// m"})
	a := program(t, "const a = 1")
	b := program(t, "const a = 1")
	b.Kids[0].Text = "q"
	if hold(t, a, b) != 2 {
		t.Error("the package's name")
	}
	b.Kids = append([]api.Node{node(api.KNote, "// n"), node(api.KNote, "// m")}, b.Kids...)
	if hold(t, a, b) != 2 || hold(t, b, a) != 2 {
		t.Error("behind remarks")
	}
	b.Kids[2].Trail = "// t"
	if hold(t, a, b) != 2 {
		t.Error("with a remark behind it")
	}
}

// P11.1: an item whose key stands twice in one tree is no anchor, be it the same tree or not.
func TestTwice(t *testing.T) {
	holdAnchors(t, 2, []string{"const a = 1", "const a = 1", "const b = 1"}, []string{"const b = 2", "const a = 1"})
	holdAnchors(t, 2, []string{"const a = 1", "const b = 1", "const a = 2"}, []string{"const a = 2", "const b = 3"})
	holdAnchors(t, 1, []string{"func f() {}", "func f() { x++ }"}, []string{"func f() { x++ }", "func f() {}"})
	holdAnchors(t, 1, []string{"var a = 1", "var a = 1", "var a = 1"}, []string{"var a = 1", "var a = 1"})
	holdAnchors(t, 2, []string{"type a int", "const a = 1"}, []string{"const a = 2", "var a = 1"})
}

// P11.1: functions with and without a receiver, of one name, with unlike receivers and with the same.
func TestReceivers(t *testing.T) {
	holdAnchors(t, 3, []string{"func f() { x++ }", "func (r t) f() { x++ }"}, []string{"func (r t) f() { y++ }", "func f() { y++ }"})
	holdAnchors(t, 1, []string{"func f() {}"}, []string{"func (r t) f() {}"})
	holdAnchors(t, 1, []string{"func (r t) f() {}"}, []string{"func (r *t) f() {}"})
	holdAnchors(t, 1, []string{"func (r t) f() {}"}, []string{"func (r u) f() {}"})
	holdAnchors(t, 1, []string{"func (r t) f() {}"}, []string{"func (r t) g() {}"})
	holdAnchors(t, 2, []string{"func (r t) f() {}"}, []string{"func (s t) f() {}"}) // the receiver's name is no part of the key
	holdAnchors(t, 4, []string{"func (r t) f() {}", "func (r *t) f() {}", "func (r **t) f() {}"}, []string{"func (r **t) f() {}", "func (r t) f() {}", "func (r *t) f() {}"})
	holdAnchors(t, 2, []string{"func (r t) f() {}", "func (s t) f() {}", "func (r u) f() {}"}, []string{"func (r u) f() {}", "func (r t) f() {}"})
	holdAnchors(t, 3, []string{"func (r map[a]b) f() {}", "func (r map[b]a) f() {}"}, []string{"func (r map[b]a) f() {}", "func (r map[a]b) f() {}"})
	holdAnchors(t, 3, []string{"func (r struct { a b }) f() {}", "func (r struct { b a }) f() {}"}, []string{"func (r struct { b a }) f() {}", "func (r struct { a b }) f() {}"})
	holdAnchors(t, 1, []string{"func (r struct { a b // n\n }) f() {}"}, []string{"func (r struct { a b // m\n }) f() {}"})
}

// P11.1: two anchors have what stands in the other one, and more of it, so that other pairs might seem as near.
func TestTempting(t *testing.T) {
	a := []string{"func f() { x++; y++; z++ }", "func g() { a++; b++; c++ }", "const k = f(1, 2) + 3", "// n"}
	b := []string{"func f() { a++; b++; c++ }", "func g() { x++; y++; z++ }", "const l = f(1, 2) + 3", "// n"}
	holdAnchors(t, 3, a, b)
	holdAnchors(t, 3, a, []string{b[1], b[0], b[3]})
	holdAnchors(t, 2, []string{"const a = 1", "const a = 1", "const b = 1"}, []string{"const b = 1", "const c = 1", "const c = 1"})
}

// P11.1: only a program's items are anchors: what is no program may have what looks like one.
func TestNoProgram(t *testing.T) {
	a := program(t, "const a = 1", "const b = 2")
	odd := node(api.KFile, "", a.Kids[2], a.Kids[1]) // without KPackage
	hold(t, a, odd)
	hold(t, odd, a)
	hold(t, odd, odd)
	for _, n := range []api.Node{
		node(api.KFile, "", node(api.KFunc, "f"), node(api.KConst, "c")),
		node(api.KFile, "", node(api.KFunc, "f", node(api.KParam, "r")), node(api.KFunc, "f", node(api.KParam, "r"))),
		node(api.KFile, "", node(api.KPackage, ""), node(api.KFunc, "", api.Node{}, api.Node{})),
		node(api.KFile, "x"), node(api.KFile, "", api.Node{}),
	} {
		for _, other := range []api.Node{a, odd, n, {}} {
			hold(t, n, other)
			hold(t, other, n)
		}
	}
}

// items are what programs by chance are made of; many share their keys, some their trees but for the name.
var items = []string{
	"const a = 1", "const a = 2", "const b = 1", "const b = f(1)", "var a = 1", "var a int", "var b = f(1)", "type a int", "type a struct { a int; b int }",
	"type b struct { b int }", "func f() { x++; y++ }", "func f() { y++; x++; y++ }", "func (r t) f() { x++ }", "func (s t) f() { y++ }", "func (r *t) f() { x++ }",
	"func g(a int, b int) int { if a { return b }; return f(a) }", "func g(b int) int { for { if a { return b } }; return f(f(a)) }", "// n", "// n", "// m",
	"const a = 1 // n", "func h() { // n\n // m\n x++ // n\n }", "func h() { x++ // n\n }",
}

// byChance is a program of some of the items; the same seed, the same program.
func byChance(t *testing.T, r *rand.Rand) api.Node {
	var l []string
	for range r.Intn(3) {
		l = append(l, []string{`import "a"`, `import "b"`, "// n"}[r.Intn(3)])
	}
	for range r.Intn(9) {
		l = append(l, items[r.Intn(len(items))])
	}
	return program(t, l...)
}

// P11.1: programs by chance.
func TestProgramsByChance(t *testing.T) {
	anchors := 0
	for seed := range 5000 {
		r := rand.New(rand.NewSource(int64(seed)))
		anchors += hold(t, byChance(t, r), byChance(t, r))
	}
	if anchors < 7000 {
		t.Error(anchors)
	}
}

// P11.1: all pairs of programs of two of the items, in any order, against each other.
func TestAllPairsOfItems(t *testing.T) {
	var all []api.Node
	for i := 0; i < len(items); i += 3 {
		for j := 1; j < len(items); j += 4 {
			all = append(all, program(t, items[i], items[j]), program(t, items[j], items[i]))
		}
	}
	for _, a := range all {
		for _, b := range all {
			hold(t, a, b)
		}
	}
}

// P11.3: the same question has the same answer, whatever was asked in between.
func TestAgain(t *testing.T) {
	for seed := range 300 {
		r := rand.New(rand.NewSource(int64(seed)))
		a, b := byChance(t, r), byChance(t, r)
		l, _ := match.Of(a, b)
		match.Of(b, a)
		match.Of(a, api.Node{})
		want(t, a, b, l...)
		if again, _ := match.Of(a, b); !match.Right(a, b, again) || match.Right(a, b, nil) || !match.Right(a, b, l) {
			t.Fatal(again)
		}
	}
}
