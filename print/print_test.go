package print_test

import (
	"math"
	"slices"
	"strings"
	"testing"

	"scarf/api"
	"scarf/doc"
	"scarf/parse"
	"scarf/print"
	"scarf/tree"
)

// wantFormat holds what is formatted against what it must be.
func wantFormat(t *testing.T, program string, width int, want string) {
	t.Helper()
	if got, at, e := print.Format([]byte(program), width); got != want || at != 0 || e != api.OK {
		t.Errorf("Format(%.300q, %d): %.300q, %d, %d; want %.300q", program, width, got, at, e, want)
	}
}

// The chapter's example, and that of the whole document.
func TestExamples(t *testing.T) {
	const program = "package p;const a=(b-c)*2//d"
	for _, width := range []int{80, 65535, 25} {
		wantFormat(t, program, width, "package p\n\nconst a = (b - c) * 2 //d\n")
	}
	for _, width := range []int{24, 19} {
		wantFormat(t, program, width, "package p\n\nconst a =\n\t(b - c) * 2 //d\n")
	}
	for _, width := range []int{18, 13} {
		wantFormat(t, program, width, "package p\n\nconst a =\n\t(b - c) *\n\t\t2 //d\n")
	}
	for _, width := range []int{1, 10, 12} {
		wantFormat(t, program, width, "package p\n\nconst a =\n\t(\n\t\tb -\n\t\t\tc) *\n\t\t2 //d\n")
	}
	n := trail("//d", node(api.KConst, "a", binary("*", binary("-", name("b"), name("c")), node(api.KInt, "2"))))
	if s, e := print.Print(fileOf(n), 10); s != "package p\n\nconst a =\n\t(\n\t\tb -\n\t\t\tc) *\n\t\t2 //d\n" || e != 0 {
		t.Errorf("Print: %q, %d", s, e)
	}
	if s, e := print.Item(n, 10); s != "const a =\n\t(\n\t\tb -\n\t\t\tc) *\n\t\t2 //d\n" || e != 0 {
		t.Errorf("Item: %q, %d", s, e)
	}
	wantFormat(t, "package p;var x=f(1,2)+g", 80, "package p\n\nvar x = f(1, 2) + g\n")
	wantFormat(t, "package p;var x=f(1,2)+g", 14, "package p\n\nvar x =\n\tf(1, 2) +\n\t\tg\n")
}

var noWidths = []int{0, -1, -80, math.MinInt32, math.MinInt, math.MinInt + 1, 65536, 65537, 1 << 20, math.MaxInt32, math.MaxInt}

// P9.1 to P9.3: a width that no page has is told ahead of all other errors.
func TestNoWidth(t *testing.T) {
	for _, width := range noWidths {
		for _, n := range []api.Node{fileOf(), fileOf(constOf(name("x"))), {}, node(api.KFile, ""), fileOf(none()), constOf(name("x")), node(api.KPackage, "p"), note()} {
			if s, e := print.Print(n, width); s != "" || e != api.ErrArg {
				t.Errorf("Print(%v, %d): %q, %d", n, width, s, e)
			}
			if s, e := print.Item(n, width); s != "" || e != 1 {
				t.Errorf("Item(%v, %d): %q, %d", n, width, s, e)
			}
		}
		for _, b := range []string{"package p", "", "package p; x", "package p; 007", "package p\xff", "package p;const a=" + strings.Repeat("(", 300) + "x"} {
			if s, at, e := print.Format([]byte(b), width); s != "" || at != 0 || e != api.ErrArg {
				t.Errorf("Format(%q, %d): %q, %d, %d", b, width, s, at, e)
			}
		}
		if s, at, e := print.Format(nil, width); s != "" || at != 0 || e != api.ErrArg {
			t.Errorf("Format(nil, %d): %q, %d, %d", width, s, at, e)
		}
	}
}

// P9.1 to P9.3: the least and the greatest width; one that just leaves room, and one that doesn't.
func TestEndsOfWidth(t *testing.T) {
	long := strings.Repeat("x", 65535-len("const c = "))
	for _, c := range []struct {
		width   int
		text    string
		printed string
	}{
		{1, "x", "const c =\n\tx\n"},
		{10, "x", "const c =\n\tx\n"},
		{11, "x", "const c = x\n"},
		{65534, long, "const c =\n\t" + long + "\n"},
		{65535, long, "const c = " + long + "\n"},
		{65535, long + "x", "const c =\n\t" + long + "x\n"},
	} {
		n := constOf(name(c.text))
		if s, e := print.Item(n, c.width); s != c.printed || e != api.OK {
			t.Errorf("Item for %d: %.50q, %d", c.width, s, e)
		}
		if s, e := print.Print(fileOf(n), c.width); s != "package p\n\n"+c.printed || e != api.OK {
			t.Errorf("Print for %d: %.50q, %d", c.width, s, e)
		}
		wantFormat(t, "package p;const c="+c.text, c.width, "package p\n\n"+c.printed)
	}
	// Bytes of signs that go on don't count.
	wantFormat(t, "package p;const c=\"é€😀\"", 15, "package p\n\nconst c = \"é€😀\"\n")
	wantFormat(t, "package p;const c=\"é€😀\"", 14, "package p\n\nconst c =\n\t\"é€😀\"\n")
}

// wrongFiles is trees that aren't Right.
func wrongFiles() []api.Node {
	x, pack := name("x"), node(api.KPackage, "p")
	l := []api.Node{
		{}, {Kind: -1}, {Kind: math.MaxInt}, {Kind: math.MinInt}, pack, note(), x, constOf(x), bodyOf(), none(),
		node(api.KFile, ""), node(api.KFile, "", note()), node(api.KFile, "x", pack), node(api.KFile, "", pack, pack), node(api.KFile, "", constOf(x), pack),
		trail("// t", fileOf()), trail("// t", fileOf(constOf(x))), node(api.KFile, "", fileOf()), node(api.KFile, "", node(api.KPackage, "package")), node(api.KFile, "", node(api.KPackage, "")),
		fileOf(constOf(x), node(api.KImport, `"s"`)),
	}
	for _, n := range wrongItems() {
		l = append(l, fileOf(n), fileOf(constOf(x), n), fileOf(note(), n))
	}
	return l
}

// wrongItems is nodes that may not be items of a file.
func wrongItems() []api.Node {
	x, T := name("x"), name("T")
	l := []api.Node{
		{}, {Kind: -1}, {Kind: 34}, {Kind: math.MinInt}, {Kind: math.MaxInt}, none(), fileOf(), node(api.KFile, ""), x,
		node(api.KConst, "c"), node(api.KConst, "", x), node(api.KConst, "if", x), node(api.KConst, "c", T, x), constOf(none()), constOf(structOf()), constOf(node(api.KPtr, "", T)), constOf(trail("// t", x)),
		constOf(binary("+", x, node(api.KInt, "007"))), constOf(binary("=", x, x)), constOf(binary("", x, x)), constOf(node(api.KBinary, "+", x)), constOf(node(api.KStr, "s")), constOf(name("x y")), constOf(name("")),
		constOf(node(api.KUnary, "/", x)), constOf(node(api.KUnary, "-")), constOf(call()), constOf(node(api.KIndex, "", x)), constOf(node(api.KDot, "", x)), constOf(node(api.KDot, "d")),
		trail("t", constOf(x)), trail("// t ", constOf(x)), trail("// t\n", constOf(x)), trail("// t", note()), trail("/", constOf(x)),
		node(api.KNote, ""), node(api.KNote, "n"), node(api.KNote, "// n\n"), node(api.KNote, "// n "), node(api.KNote, "// n", x), node(api.KNote, " // n"), node(api.KNote, "// \xff"),
		node(api.KImport, ""), node(api.KImport, "s"), node(api.KImport, `"s" `), node(api.KImport, `"s`, x), node(api.KImport, `"s"`, x),
		node(api.KVar, "v"), node(api.KVar, "v", T), node(api.KVar, "v", none(), none()), node(api.KVar, "v", node(api.KInt, "1"), none()), node(api.KVar, "v", T, structOf()), node(api.KVar, "v", T, x, x),
		node(api.KType, "t"), node(api.KType, "t", none()), node(api.KType, "t", node(api.KInt, "1")), typeOf(structOf(x)), typeOf(structOf(node(api.KParam, "a", T))), typeOf(node(api.KMap, "", T)), typeOf(node(api.KPtr, "")),
		node(api.KFunc, "f"), node(api.KFunc, "f", none(), none(), none(), block()), node(api.KFunc, "f", none(), node(api.KParams, ""), none(), none()), node(api.KFunc, "f", T, node(api.KParams, ""), none(), block()),
		node(api.KFunc, "f", none(), node(api.KParams, "", node(api.KField, "a", T)), none(), block()), node(api.KFunc, "f", none(), node(api.KParams, ""), block()), node(api.KFunc, "f", none(), node(api.KParams, ""), x, block(), block()),
		bodyOf(x), bodyOf(none()), bodyOf(call(x)), bodyOf(constOf(x)), bodyOf(bodyOf()), bodyOf(node(api.KDo, "", x)), bodyOf(node(api.KIf, "", x, block())), bodyOf(node(api.KIf, "", none(), block(), none())),
		bodyOf(node(api.KFor, "", block())), bodyOf(node(api.KReturn, "", none())), bodyOf(node(api.KAssign, "=", call(x), x)), bodyOf(node(api.KAssign, ":=", node(api.KDot, "d", x), x)), bodyOf(node(api.KAssign, "==", x, x)),
		bodyOf(node(api.KInc, "+", x)), bodyOf(node(api.KInc, "++", node(api.KInt, "1"))), bodyOf(node(api.KBreak, "", x)), bodyOf(node(api.KBreak, "break")), bodyOf(trail("// t", note())),
	}
	for kind := api.KName; kind <= api.KNone; kind++ {
		l = append(l, node(kind, ""), node(kind, "x"), node(kind, "x", T), node(kind, "", x, x))
	}
	for _, n := range everyStatement() {
		if n.Kind != api.KVar && n.Kind != api.KNote {
			l = append(l, n)
		}
	}
	return append(l, everyType()...)
}

// P9.1, P9.2: trees that aren't Right, and nodes that may not be items of a file, at the ends of what a width may be.
func TestNoTree(t *testing.T) {
	for _, file := range wrongFiles() {
		if d, e := print.Doc(file); e != api.ErrTree || len(d.Plain()) > 0 {
			t.Errorf("Doc(%v): %d pieces, %d", file, len(d.Plain()), e)
		}
		for _, width := range []int{1, 80, 65535} {
			if s, e := print.Print(file, width); s != "" || e != 7 {
				t.Errorf("Print(%v, %d): %q, %d", file, width, s, e)
			}
		}
	}
	for _, n := range append(wrongItems(), trail("// t", note()), node(api.KPackage, ""), node(api.KPackage, "if"), node(api.KPackage, "p", note()), trail("t", node(api.KPackage, "p"))) {
		for _, width := range []int{1, 80, 65535} {
			if s, e := print.Item(n, width); s != "" || e != api.ErrTree {
				t.Errorf("Item(%v, %d): %q, %d", n, width, s, e)
			}
		}
	}
}

// P9.3: bytes that are no program: the error and place that chapter 6 tells.
func TestNoProgram(t *testing.T) {
	for _, c := range []struct {
		program string
		at      int
		e       api.Errno
	}{
		{"", 0, api.ErrParse},
		{"package p; x", 11, api.ErrParse},
		{"package p\nx := 1", 10, api.ErrParse},
		{"package p\nconst c =", 19, api.ErrParse},
		{"package p\nconst c = 007", 20, api.ErrToken},
		{"package p\nconst c = \"", 20, api.ErrToken},
		{"package p // \xff", 13, api.ErrText},
		{"package p\nconst c = " + strings.Repeat("(", 257) + "x" + strings.Repeat(")", 257), 20 + 257, api.ErrDeep},
		{strings.Repeat(" ", api.MaxInput-9) + "package p ", 0, api.ErrLong},
	} {
		for _, width := range []int{1, 80, 65535} {
			if s, at, e := print.Format([]byte(c.program), width); s != "" || at != c.at || e != c.e {
				t.Errorf("Format(%.30q, %d): %q, %d, %d", c.program, width, s, at, e)
			}
		}
	}
	wantFormat(t, strings.Repeat(" ", api.MaxInput-9)+"package p", 1, "package p\n")
	made(200, func(seed int64, file api.Node) {
		s, _ := print.Print(file, 40)
		for i := range len(s) {
			_, wantAt, want := parse.Parse([]byte(s[:i]))
			if got, at, e := print.Format([]byte(s[:i]), 80); e != want || at != wantAt || (e != api.OK) != (got == "") {
				t.Fatalf("Format(%q, 80): %q, %d, %d", s[:i], got, at, e)
			}
		}
	})
}

// P9.2: the gap between any two nodes hangs on their kinds alone.
func TestGap(t *testing.T) {
	for a := -2; a < 40; a++ {
		for b := -2; b < 40; b++ {
			want := 2
			if a == api.KNote || a == api.KImport && b == api.KImport {
				want = 1
			}
			for _, n := range [][2]api.Node{{{Kind: a}, {Kind: b}}, {node(a, "a", name("x")), trail("// t", node(b, "b"))}, {trail("// t", node(a, `""`)), node(b, "// n", note())}} {
				if got := print.Gap(n[0], n[1]); got != want {
					t.Errorf("Gap of the kinds %d and %d: %d; want %d", a, b, got, want)
				}
			}
		}
	}
	if print.Gap(api.Node{Kind: math.MinInt}, api.Node{Kind: math.MaxInt}) != 2 {
		t.Error("a gap of no kinds")
	}
}

// P9.2: a file's item by itself.
func TestItem(t *testing.T) {
	x := name("x")
	for _, c := range []struct {
		item    api.Node
		printed string
	}{
		{node(api.KPackage, "p"), "package p\n"},
		{trail("// t", node(api.KPackage, "q")), "package q // t\n"},
		{node(api.KImport, `"a b"`), "import \"a b\"\n"},
		{trail("//", node(api.KImport, `""`)), "import \"\" //\n"},
		{note(), "// n\n"},
		{constOf(x), "const c = x\n"},
		{node(api.KVar, "v", name("T"), none()), "var v T\n"},
		{typeOf(structOf(note())), "type t struct {\n\t// n\n}\n"},
		{trail("// t", bodyOf()), "func f() {} // t\n"},
	} {
		if s, e := print.Item(c.item, 80); s != c.printed || e != api.OK {
			t.Errorf("Item(%v): %q, %d; want %q", c.item, s, e, c.printed)
		}
	}
}

// room is a tree whose lists have room behind their ends, in which something stands.
func room(n api.Node) api.Node {
	var kids []api.Node
	for _, kid := range n.Kids {
		kids = append(kids, room(kid))
	}
	n.Kids = append(kids, note(), name("behind"))[:len(kids)]
	return n
}

// sameRoom tells whether what stands behind the lists' ends is still there.
func sameRoom(n api.Node) bool {
	l := n.Kids[:len(n.Kids)+2]
	return tree.Same(l[len(n.Kids)], note()) && tree.Same(l[len(n.Kids)+1], name("behind")) && !slices.ContainsFunc(n.Kids, func(kid api.Node) bool { return !sameRoom(kid) })
}

// scribble writes over all of a tree's nodes.
func scribble(n api.Node) {
	for i := range n.Kids {
		scribble(n.Kids[i])
		n.Kids[i] = node(api.KName, "over")
	}
}

// P9.5, and the rules on memory: what is handed in stays as it is, and what is done to it later doesn't show in what was answered.
func TestMemory(t *testing.T) {
	made(300, func(seed int64, file api.Node) {
		own := room(file)
		first, _ := print.Doc(own)
		want := first.Plain()
		s, _ := print.Print(own, 30)
		laid := strings.Clone(s)
		for _, n := range own.Kids {
			print.Item(n, 20)
			print.Gap(n, own)
		}
		print.Print(own, 0)
		if !tree.Same(own, file) || !sameRoom(own) {
			t.Fatalf("seed %d: the tree was changed", seed)
		}
		b := []byte(s + "// behind")
		printed, _, _ := print.Format(b[:len(s)], 30)
		if string(b) != s+"// behind" || printed != s {
			t.Fatalf("seed %d: the bytes were changed", seed)
		}
		scribble(own)
		clear(b)
		second, _ := print.Doc(file)
		doc.Row(first, doc.Hard())
		if !slices.Equal(first.Plain(), want) || !slices.Equal(second.Plain(), want) || s != laid || printed != laid {
			t.Fatalf("seed %d: an answer was changed", seed)
		}
	})
	for _, n := range wrongItems() {
		own := room(n)
		print.Doc(own)
		print.Print(own, 80)
		print.Item(own, 80)
		if !tree.Same(own, n) || !sameRoom(own) {
			t.Errorf("%v was changed", n)
		}
	}
}

// P1: nodes that are no trees, and Kids that aren't there.
func TestNoNodes(t *testing.T) {
	for kind := -1; kind < 36; kind++ {
		for _, n := range []api.Node{{Kind: kind}, {Kind: kind, Kids: []api.Node{}}, {Kind: kind, Kids: make([]api.Node, 5)}, node(kind, "\xff\n", none(), none(), none(), none())} {
			if _, e := print.Doc(n); e != api.ErrTree {
				t.Errorf("Doc(%v): %d", n, e)
			}
			print.Print(n, 1)
			print.Item(n, 1)
			print.Gap(n, api.Node{})
			print.Doc(fileOf(n))
			print.Print(fileOf(n, n), 1)
			print.Item(node(api.KConst, "c", n), 1)
			print.Item(bodyOf(n), 1)
			print.Item(typeOf(structOf(n)), 1)
		}
	}
}
