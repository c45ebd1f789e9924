package print_test

import (
	"runtime/debug"
	"strings"
	"testing"

	"scarf/api"
	"scarf/parse"
	"scarf/print"
	"scarf/tree"
)

// way is a way of standing deep: around so many times is the deepest that a Right file has within inner's file.
type way struct {
	around func(n api.Node) api.Node
	inner  api.Node
	file   func(n api.Node) api.Node
	most   int
}

func ways() []way {
	x, T := name("x"), name("T")
	inConst := func(n api.Node) api.Node { return fileOf(constOf(n)) }
	inType := func(n api.Node) api.Node { return fileOf(typeOf(n)) }
	inBody := func(n api.Node) api.Node { return fileOf(bodyOf(n)) }
	inReturn := func(n api.Node) api.Node { return fileOf(bodyOf(node(api.KReturn, "", x, n))) }
	return []way{
		{func(n api.Node) api.Node { return node(api.KUnary, "!", n) }, x, inConst, 128},
		{func(n api.Node) api.Node { return node(api.KUnary, "-", n) }, binary("+", x, x), inConst, 128},
		{func(n api.Node) api.Node { return binary("-", x, n) }, x, inConst, 257},
		{func(n api.Node) api.Node { return binary("*", x, binary("+", n, x)) }, x, inConst, 256},
		{func(n api.Node) api.Node { return node(api.KIndex, "", x, n) }, x, inConst, 256},
		{func(n api.Node) api.Node { return call(x, n) }, x, inConst, 256},
		{func(n api.Node) api.Node { return call(x, x, n, x) }, x, inReturn, 255},
		{func(n api.Node) api.Node { return call(binary("+", n, x)) }, x, inConst, 256},
		{func(n api.Node) api.Node { return node(api.KDot, "d", node(api.KUnary, "-", n)) }, x, inConst, 128},
		{func(n api.Node) api.Node { return node(api.KPtr, "", n) }, T, inType, 256},
		{func(n api.Node) api.Node { return node(api.KSlice, "", n) }, T, inType, 256},
		{func(n api.Node) api.Node { return node(api.KMap, "", T, n) }, T, inType, 256},
		{func(n api.Node) api.Node { return node(api.KMap, "", n, T) }, T, inType, 256},
		{func(n api.Node) api.Node { return structOf(note(), trail("// t", node(api.KField, "a", n)), note()) }, T, inType, 256},
		{func(n api.Node) api.Node { return block(n) }, block(), inBody, 255},
		{func(n api.Node) api.Node { return block(note(), n, note()) }, note(), inBody, 255},
		{func(n api.Node) api.Node { return trail("// t", node(api.KIf, "", x, block(n), none())) }, node(api.KBreak, ""), inBody, 255},
		{func(n api.Node) api.Node { return node(api.KIf, "", x, block(), block(n)) }, node(api.KReturn, "", x), inBody, 255},
		{func(n api.Node) api.Node { return node(api.KIf, "", x, block(), n) }, node(api.KIf, "", x, block(), none()), inBody, 255},
		{func(n api.Node) api.Node { return node(api.KFor, "", none(), block(n)) }, node(api.KInc, "++", x), inBody, 255},
	}
}

// P9.1, P9.2, P9.4: each way of standing deep, as deep as may be; and one deeper, where it is no program's tree.
func TestDeep(t *testing.T) {
	for i, w := range ways() {
		n := w.inner
		for range w.most {
			n = w.around(n)
		}
		file := w.file(n)
		wantSheet(t, file)
		holdAgain(t, file)
		file = w.file(w.around(n))
		if d, e := print.Doc(file); e != api.ErrTree || len(d.Plain()) > 0 {
			t.Errorf("way %d, one deeper: Doc: %d", i, e)
		}
		if s, e := print.Print(file, 80); s != "" || e != api.ErrTree {
			t.Errorf("way %d, one deeper: Print: %.50q, %d", i, s, e)
		}
		if s, e := print.Item(file.Kids[1], 80); s != "" || e != api.ErrTree {
			t.Errorf("way %d, one deeper: Item: %.50q, %d", i, s, e)
		}
	}
}

// P9.4: long lists, each part on a line of its own or all on one.
func TestLong(t *testing.T) {
	const n = 16000
	list := strings.Repeat("x,", n-1) + "x"
	lines := strings.ReplaceAll(list, ",", ",\n\t")
	for _, width := range []int{1, 80, 40000} {
		wantPage(t, "const c=f("+list+")", width, "const c =\n\tf(\n\t\t"+strings.ReplaceAll(lines, "\t", "\t\t")+")\n")
		wantPage(t, "const c=f("+list+",)", width, "const c =\n\tf(\n\t\t"+strings.ReplaceAll(lines, "\t", "\t\t")+")\n")
	}
	flat := "const c = f(" + strings.ReplaceAll(list, ",", ", ") + ")\n"
	wantPage(t, "const c=f("+list+")", len(flat)-1, flat)
	sum := strings.ReplaceAll(list, ",", "+")
	for _, width := range []int{1, 8} {
		wantPage(t, "const c="+sum, width, "const c =\n\t"+strings.ReplaceAll(sum, "+", " +\n\t\t")+"\n")
	}
	flat = "const c = " + strings.ReplaceAll(sum, "+", " + ") + "\n"
	wantPage(t, "const c="+sum, 65535, flat)
	wantPage(t, "func f("+strings.Repeat("a T,", n)+"){return "+list+"}", 9, "func f(\n\t"+strings.Repeat("a T,\n\t", n-1)+"a T) {\n\treturn x"+strings.Repeat(",\n\t\tx", n-1)+"\n}\n")
	wantPage(t, strings.Repeat("const c=x;", n), 80, strings.Repeat("const c = x\n\n", n)[:13*n-1])
	wantBody(t, strings.Repeat("x++;", n), 80, strings.Repeat("x++\n", n)[:4*n-1])
	wantBody(t, strings.Repeat("// n\n", n), 80, strings.Repeat("// n\n", n)[:5*n-1])
}

// P1: a long sum, and long rows of calls, indexes and dots, are deep in their first Kids, far deeper than calls may be: this takes no room on the stack.
func TestLongByFirstKids(t *testing.T) {
	defer debug.SetMaxStack(debug.SetMaxStack(1 << 19))
	const n = 1 << 16
	for more, broken := range map[string]string{"+x": " +\n\t\tx", ".x": ".x", "()": "()", "(x)": "(\n\t\tx)", "[x]": "[\n\t\tx]"} {
		program := []byte("package p;const c=x" + strings.Repeat(more, n))
		want := "package p\n\nconst c =\n\tx" + strings.Repeat(broken, n) + "\n"
		for _, width := range []int{1, 6} {
			if s, _, e := print.Format(program, width); s != want || e != api.OK {
				t.Fatalf("x%s.. for %d: %.50q, %d", more, width, s, e)
			}
		}
		file, _, _ := parse.Parse(program)
		if s, e := print.Print(file, 1); s != want || e != api.OK {
			t.Errorf("x%s..: Print: %.50q, %d", more, s, e)
		}
		if s, e := print.Item(file.Kids[1], 1); "package p\n\n"+s != want || e != api.OK {
			t.Errorf("x%s..: Item: %.50q, %d", more, s, e)
		}
		if d, e := print.Doc(file); len(d.Plain()) < n || e != api.OK {
			t.Errorf("x%s..: Doc: %d", more, e)
		}
		back, _, e := parse.Parse([]byte(want))
		if e != api.OK || !tree.Same(back, file) {
			t.Errorf("x%s.. isn't read as it was: %d", more, e)
		}
		// The deepest first Kid isn't right, or the last of all.
		if _, e := print.Print(fileOf(constOf(binary("+", file.Kids[1].Kids[0], none()))), 1); e != api.ErrTree {
			t.Errorf("x%s..+ nothing: %d", more, e)
		}
	}
}
