package match_test

import (
	"testing"

	"scarf/match"
)

// P11.1: which pairs there are beside the roots and the anchors is FREE; these are ordinary changes,
// of which it is told how many nodes of either tree are in no pair.
func TestChanges(t *testing.T) {
	body := func(s string) string { return "func f() { " + s + " }" }
	for _, c := range []struct {
		name         string
		a, b         string
		onlyA, onlyB int
	}{
		{"a number changed", "const a = 1", "const a = 2", 0, 0},
		{"an operator changed", "const a = b + c", "const a = b - c", 0, 0},
		{"another kind of expression", "const a = 1", "const a = b", 1, 1},
		{"a constant of another name", "const a = f(1)", "const b = f(1)", 0, 0},
		{"another constant", "const a = f(1)", "const b = 2", 4, 2},
		{"a statement put in", body("a(); b()"), body("a(); x++; b()"), 0, 2},
		{"a statement taken out", body("a(); x++; b()"), body("a(); b()"), 2, 0},
		{"a statement put in ahead of others like it", body("x++; x++"), body("y--; x++; x++"), 0, 2},
		{"statements turned round", body("a(); b(1)"), body("b(1); a()"), 0, 0},
		{"a statement moved to the end, another one changed", body("z(); a(); b(); c(); d()"), body("a(); b(); c(1); d(); z()"), 0, 1},
		{"a statement moved to the front, another one changed", body("a(); b(); c(); d(); z()"), body("z(); a(); b(); c(1); d()"), 0, 1},
		{"a statement changed between others", body("a(); b(); c()"), body("a(); b(1); c()"), 0, 1},
		{"a changed statement, and a new one", body("x = f(y)"), body("z = 1; x = f(y, 1)"), 0, 4},
		{"a statement put into a new block", body("a(); b(); c()"), body("a(); if x { b() }; c()"), 0, 4},
		{"a statement taken out of a block", body("a(); if x { b() }; c()"), body("a(); b(); c()"), 4, 0},
		{"a call around a call", body("return f(x)"), body("return f(f(x))"), 0, 2},
		{"a call taken from around a call", body("return f(f(x))"), body("return f(x)"), 2, 0},
		{"arguments turned round", body("f(a, b, c)"), body("f(c, a, b)"), 0, 0},
		{"an argument put in", body("f(a, b)"), body("f(a, 1, b)"), 0, 1},
		{"a parameter put in", "func f(a int) {}", "func f(b string, a int) {}", 0, 2},
		{"a parameter of another name", "func f(a int, b string) {}", "func f(c int, b string) {}", 0, 0},
		{"an else put in", body("if a { x++ }"), body("if a { x++ } else { y++ }"), 1, 3},
		{"a loop put around loops", body("for a { x++ }"), body("for b { for a { x++ } }"), 0, 3},
		{"a remark moved", "// n\nconst a = 1", "const a = 1\n// n", 0, 0},
		{"what goes and what comes have leaves alike", body("a = i; b(1)"), body("for { z(i) }; b(1)"), 3, 7},
	} {
		a, b := program(t, c.a), program(t, c.b)
		l, _ := match.Of(a, b)
		if onlyA, onlyB := len(places(a))-len(l), len(places(b))-len(l); onlyA != c.onlyA || onlyB != c.onlyB {
			t.Errorf("%s: %d and %d, not %d and %d", c.name, onlyA, onlyB, c.onlyA, c.onlyB)
		}
		hold(t, a, b)
		hold(t, b, a)
	}
}
