package meld_test

import (
	"testing"

	"scarf/api"
	"scarf/meld"
	"scarf/tree"
)

// holdSame asks for P14.3, if one side is the base, or both sides are the same: then the merge is n, if that is Right. The base is a tree of n's kind.
func holdSame(t *testing.T, b, n api.Node) {
	t.Helper()
	for _, l := range [][2]api.Node{{b, n}, {n, b}, {n, n}} {
		got, ok, e := meld.Merge(b, l[0], l[1])
		right := tree.Right(n)
		if e != api.OK || ok != right || right && !tree.Same(got, n) {
			t.Fatal(b, l, got, ok, e)
		}
	}
}

// P14.3: one side is the base, or both are the same: with unlike, odd, empty bases.
func TestSame(t *testing.T) {
	twice := node(api.KFile, "", node(api.KPackage, "p"), node(api.KPackage, "p"))
	all := []api.Node{
		program(t), read(t, "package q // n"), program(t, "const a = 1", "const a = 1", "const a = 2"), program(t, "const a = 2", "func f() { x++; x++; { x++ } }", "const a = 1"),
		read(t, "// n\n// n\npackage p\n// n\nimport \"a\"\n// n\nimport \"a\""), program(t, "func f() { { x++ }; x++; x++ }", "func f() {}"),
		node(api.KFile, ""), node(api.KFile, "f", api.Node{}), twice,
	}
	for _, b := range all {
		for _, n := range all {
			holdSame(t, b, n)
		}
	}
}

// P14.3: items with keys in one order, each changed by one side at most; what stands within them is alike, or stood in another one.
func TestTempting(t *testing.T) {
	b := program(t, "func f() { x++; y(1) }", "func g() { y(1); z-- }", "const c = k(1) + 2", "var v = k(3)", "func (r t) f() { x++ }", "func (r *t) f() { x++; y(1) }")
	merges(t, b,
		program(t, "func f() { y(1); z-- }", "func g() { y(1); z-- }", "const c = k(3)", "var v = k(3)", "func (s t) f() { x++; y(1) }", "func (r *t) f() { x++; y(1) }"),
		program(t, "func f() { x++; y(1) }", "func g() { x++; y(1) }", "const c = k(1) + 2", "var v = k(1) + 2", "func (r t) f() { x++ }", "func (s *t) f() { x++ }"),
		program(t, "func f() { y(1); z-- }", "func g() { x++; y(1) }", "const c = k(3)", "var v = k(1) + 2", "func (s t) f() { x++; y(1) }", "func (s *t) f() { x++ }"))
	// One side changes all, the other one nothing, or all but one.
	one, two := program(t, "const a = f(1)", "const b = f(2)", "const c = f(3)"), program(t, "const a = f(3)", "const b = f(1)", "const c = f(2)")
	merges(t, one, two, one, two)
	merges(t, one, program(t, "const a = f(3)", "const b = f(1)", "const c = f(3)"), program(t, "const a = f(1)", "const b = f(2)", "const c = f(1)"), program(t, "const a = f(3)", "const b = f(1)", "const c = f(1)"))
}
