package meld_test

import (
	"testing"

	"scarf/tree"
)

// none is what stands in the place of the merge of programs that have none.
const none = "none"

// holdMerge asks for the merge of three programs of these items.
func holdMerge(t *testing.T, name, b, o, th, want string) {
	t.Helper()
	base, ours, theirs := program(t, b), program(t, o), program(t, th)
	if want == none {
		if n, ok := hold(t, base, ours, theirs); ok {
			t.Error(name, n)
		}
		return
	}
	if n, ok := hold(t, base, ours, theirs); !ok {
		t.Error(name, "not sound")
	} else if !tree.Same(n, program(t, want)) {
		t.Error(name, n)
	}
}

// P14.2: items of files that are put in, taken out, moved, changed. All of these have keys, so what is paired is settled.
func TestItems(t *testing.T) {
	const b = "const a = 1; const b = 2; const c = 3"
	for _, c := range []struct{ name, b, o, t, want string }{
		{"nothing changed", b, b, b, b},
		{"both the same change", b, "const a = 1; const b = 5; const c = 3", "const a = 1; const b = 5; const c = 3", "const a = 1; const b = 5; const c = 3"},
		{"both put the same item in", b, b + "; var d = 4", b + "; var d = 4", b + "; var d = 4"},
		{"both put the same item in, ours another one, too", b, "var e int; " + b + "; var d = 4", b + "; var d = 4", "var e int; " + b + "; var d = 4"},
		{"put in at two places", b, "var d = 4; " + b, b + "; var e = 5", "var d = 4; " + b + "; var e = 5"},
		{"put in at one place", b, b + "; var d = 4", b + "; var e = 5", none},
		{"the same item put in at two places", b, "var d = 4; " + b, b + "; var d = 4", none},
		{"both take the same item out", b, "const a = 1; const c = 3", "const a = 1; const c = 3", "const a = 1; const c = 3"},
		{"two that aren't neighbours taken out", b + "; const d = 4", "const b = 2; const c = 3; const d = 4", "const a = 1; const b = 2; const d = 4", "const b = 2; const d = 4"},
		{"two neighbours taken out", b, "const a = 1; const c = 3", "const a = 1; const b = 2", none},
		{"one taken out, one behind it put in", b, "const a = 1; const c = 3", "const a = 1; const b = 2; var d = 4; const c = 3", none},
		{"one taken out, one further on put in", b, "const b = 2; const c = 3", "const a = 1; const b = 2; var d = 4; const c = 3", "const b = 2; var d = 4; const c = 3"},
		{"one taken out, its neighbour changed", b, "const a = 1; const c = 3", "const a = 1; const b = 2; const c = 4", "const a = 1; const c = 4"},
		{"one taken out that is changed", b, "const a = 1; const c = 3", "const a = 1; const b = 5; const c = 3", none},
		{"all taken out", b, "", b, ""},
		{"all taken out, one changed", b, "", "const a = 1; const b = 2; const c = 4", none},
		{"one moved, another one changed", b, "const b = 2; const c = 3; const a = 1", "const a = 1; const b = 5; const c = 3", "const b = 5; const c = 3; const a = 1"},
		{"one moved and changed", b, "const b = 2; const c = 3; const a = 1", "const a = 5; const b = 2; const c = 3", "const b = 2; const c = 3; const a = 5"},
		{"one moved to two places", b + "; const d = 4", "const b = 2; const a = 1; const c = 3; const d = 4", "const b = 2; const c = 3; const a = 1; const d = 4", none},
		{"both move one to the same place", b, "const b = 2; const c = 3; const a = 1", "const b = 2; const c = 3; const a = 1", "const b = 2; const c = 3; const a = 1"},
		{"all by ours", b, "var x = y; const c = 4; const a = 7", b, "var x = y; const c = 4; const a = 7"},
		{"a remark behind an item, the item's value", b, "const a = 1 // n\n const b = 2; const c = 3", "const a = 4; const b = 2; const c = 3", "const a = 4 // n\n const b = 2; const c = 3"},
		{"two remarks behind an item", b, "const a = 1 // n\n const b = 2; const c = 3", "const a = 1 // m\n const b = 2; const c = 3", none},
	} {
		holdMerge(t, c.name, c.b, c.o, c.t, c.want)
	}
}

// P14.2: a base without items: all is new, what is the same is one thing, and what isn't stands at one place.
func TestNew(t *testing.T) {
	holdMerge(t, "the same", "", "func f() { x++; x++ }; const a = 1", "func f() { x++; x++ }; const a = 1", "func f() { x++; x++ }; const a = 1")
	holdMerge(t, "by ours", "", "const a = 1", "", "const a = 1")
	holdMerge(t, "the same in two turns", "", "const a = 1; const b = 2", "const b = 2; const a = 1", none)
	holdMerge(t, "one more by ours", "", "const a = 1; const b = 2", "const a = 1", none)
	holdMerge(t, "unlike", "", "const a = 1", "const a = 2", none)
}

// P14.2: both change what stands within one item. (What is paired there is FREE; these are ordinary changes.)
func TestWithin(t *testing.T) {
	body := func(s string) string { return "func f(a int) { " + s + " }" }
	const b = "a(); b(1); c()"
	for _, c := range []struct{ name, o, t, want string }{
		{"statements put in at two places", "x++; a(); b(1); c()", "a(); b(1); c(); y--", "x++; a(); b(1); c(); y--"},
		{"statements put in at one place", "a(); b(1); c(); x++", "a(); b(1); c(); y--", none},
		{"the same statement put in, and another one", "a(); x++; b(1); c()", "a(); x++; b(1); y--; c()", "a(); x++; b(1); y--; c()"},
		{"a statement taken out, another one changed", "b(1); c()", "a(); b(2); c()", "b(2); c()"},
		{"a statement taken out and changed", "a(); c()", "a(); b(2); c()", none},
		{"one moved, one changed", "c(); a(); b(1)", "a(); b(2); c()", "c(); a(); b(2)"},
		{"one put into a block, and changed", "a(); if x { b(1) }; c()", "a(); b(2); c()", "a(); if x { b(2) }; c()"},
		{"two arguments of one call", "a(); b(2); c()", "a(); b(1, 3); c()", "a(); b(2, 3); c()"},
		{"two words", "a(); b(2); c()", "a(); b(3); c()", none},
	} {
		want := none
		if c.want != none {
			want = body(c.want)
		}
		holdMerge(t, c.name, body(b), body(c.o), body(c.t), want)
	}
	holdMerge(t, "a parameter, and a statement", body("a()"), "func f(a int, b int) { a() }", body("x++; a()"), "func f(a int, b int) { x++; a() }")
	holdMerge(t, "a result, and a statement", body("a()"), "func f(a int) int { a() }", body("x++; a()"), "func f(a int) int { x++; a() }")
	holdMerge(t, "an else, and a condition", body("if a { x++ }"), body("if a { x++ } else { y++ }"), body("if b { x++ }"), body("if b { x++ } else { y++ }"))
	holdMerge(t, "the type, and the value, of which there must be one", "var a int = 1", "var a int", "var a = 1", none)
	holdMerge(t, "both fields of a struct", "type s struct { a int; b int }", "type s struct { a int // n\n b int }", "type s struct { a int; b int; c int }", "type s struct { a int // n\n b int; c int }")
}

// P14.2: a package's name and the remark behind it are one word; what stands ahead of the items may be changed beside them.
func TestPackage(t *testing.T) {
	b := read(t, "package p\nimport \"a\"\nconst a = 1")
	name := read(t, "package q\nimport \"a\"\nconst a = 1")
	merges(t, b, name, read(t, "package p\nimport \"a\"\nconst a = 2"), read(t, "package q\nimport \"a\"\nconst a = 2"))
	merges(t, b, name, read(t, "// n\npackage p\nimport \"a\"\nconst a = 1"), read(t, "// n\npackage q\nimport \"a\"\nconst a = 1"))
	merges(t, b, name, read(t, "package p\nimport \"a\"\nimport \"b\"\nconst a = 1"), read(t, "package q\nimport \"a\"\nimport \"b\"\nconst a = 1"))
	clashes(t, b, name, read(t, "package r\nimport \"a\"\nconst a = 1"))
	clashes(t, b, name, read(t, "package p // n\nimport \"a\"\nconst a = 1"))
}

// P14.2: what both sides changed is a tree, but no program: an import stands behind a constant.
func TestTreeButNoProgram(t *testing.T) {
	b := read(t, "package p\n// n\n// m\n// l")
	o := read(t, "package p\n// n\nconst a = 1\n// m\n// l")
	clashes(t, b, o, read(t, "package p\n// n\n// m\nimport \"a\"\n// l"))
	merges(t, b, o, read(t, "package p\nimport \"a\"\n// n\n// m\n// l"), read(t, "package p\nimport \"a\"\n// n\nconst a = 1\n// m\n// l"))
	merges(t, b, o, read(t, "package p\n// n\n// m\nconst b = 1\n// l"), read(t, "package p\n// n\nconst a = 1\n// m\nconst b = 1\n// l"))
}
