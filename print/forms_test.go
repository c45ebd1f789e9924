package print_test

import (
	"strings"
	"testing"
	"unicode/utf8"

	"scarf/api"
	"scarf/print"
)

// wantPage holds a program's items behind its package, as they are formatted.
func wantPage(t *testing.T, items string, width int, want string) {
	t.Helper()
	wantFormat(t, "package p\n"+items, width, "package p\n\n"+want)
}

// wantBody holds a function's statements, as they are formatted.
func wantBody(t *testing.T, statements string, width int, want string) {
	t.Helper()
	wantPage(t, "func f(){"+statements+"}", width, "func f() {\n\t"+strings.ReplaceAll(want, "\n", "\n\t")+"\n}\n")
}

// P9.1: items of a file, and their gaps.
func TestFiles(t *testing.T) {
	for _, c := range []struct{ program, want string }{
		{"package p", "package p\n"},
		{"\n\n package\tp // t\n\n", "package p // t\n"},
		{"// n\n\n// m\n\npackage p;", "// n\n// m\npackage p\n"},
		{"package p\n// n", "package p\n\n// n\n"},
		{"package p // t\n// n\n// m", "package p // t\n\n// n\n// m\n"},
		{"package p;import \"a\"", "package p\n\nimport \"a\"\n"},
		{"package p;import \"a\";import \"b\"//t\nimport\"c\"", "package p\n\nimport \"a\"\nimport \"b\" //t\nimport \"c\"\n"},
		{"package p;import \"a\"\n// n\nimport \"b\"\n\nimport \"c\"\n// m\n", "package p\n\nimport \"a\"\n\n// n\nimport \"b\"\nimport \"c\"\n\n// m\n"},
		{"package p;import \"a\";const c=1;var v T;type t T;func f(){};func g(){}//t\n// n\nconst d=2", "package p\n\nimport \"a\"\n\nconst c = 1\n\nvar v T\n\ntype t T\n\nfunc f() {}\n\nfunc g() {} //t\n\n// n\nconst d = 2\n"},
	} {
		for _, width := range []int{12, 80, 65535} {
			wantFormat(t, c.program, width, c.want)
		}
	}
}

// P9.1: what has no group stands as it is on every page.
func TestOneForm(t *testing.T) {
	for _, width := range []int{1, 9, 80, 65535} {
		for items, want := range map[string]string{
			"var v T":                            "var v T\n",
			"var v []*map[K]map[string]*[]T":     "var v []*map[K]map[string]*[]T\n",
			"type t T":                           "type t T\n",
			"type t * * T":                       "type t **T\n",
			"type t struct{}":                    "type t struct {}\n",
			"type t struct{a T}":                 "type t struct {\n\ta T\n}\n",
			"type t struct{\n// n\na T//t\nb*T}": "type t struct {\n\t// n\n\ta T //t\n\tb *T\n}\n",
			"type t struct{// n\n}":              "type t struct {\n\t// n\n}\n",
			"type t []struct{a struct{b T};c struct{}}//t":    "type t []struct {\n\ta struct {\n\t\tb T\n\t}\n\tc struct {}\n} //t\n",
			"type t map[struct{}]struct{a T}":                 "type t map[struct {}]struct {\n\ta T\n}\n",
			"func f(){}":                                      "func f() {}\n",
			"func(r T)f(){}":                                  "func (r T) f() {}\n",
			"func(r*T)f()[]T{}":                               "func (r *T) f() []T {}\n",
			"func f()struct{}{}":                              "func f() struct {} {}\n",
			"func f()struct{a T}{b()}":                        "func f() struct {\n\ta T\n} {\n\tb()\n}\n",
			"func f(){};":                                     "func f() {}\n",
			"func f(){\n\n// n\n\n}":                          "func f() {\n\t// n\n}\n",
			"func f(){{}\n{};{{}}}":                           "func f() {\n\t{}\n\t{}\n\t{\n\t\t{}\n\t}\n}\n",
			"func f(){{a()//t\n}//u\n\n\n// n\n}":             "func f() {\n\t{\n\t\ta() //t\n\t} //u\n\t// n\n}\n",
			"func f(){if x{}}":                                "func f() {\n\tif x {}\n}\n",
			"func f(){if x{}else{}}":                          "func f() {\n\tif x {} else {}\n}\n",
			"func f(){if x{a()}else if y{b()}else{c()}//t\n}": "func f() {\n\tif x {\n\t\ta()\n\t} else if y {\n\t\tb()\n\t} else {\n\t\tc()\n\t} //t\n}\n",
			"func f(){if x{}else if y{}else if z{}}":          "func f() {\n\tif x {} else if y {} else if z {}\n}\n",
			"func f(){if x{}else{if y{}}}":                    "func f() {\n\tif x {} else {\n\t\tif y {}\n\t}\n}\n",
			"func f(){for{}}":                                 "func f() {\n\tfor {}\n}\n",
			"func f(){for{break}}":                            "func f() {\n\tfor {\n\t\tbreak\n\t}\n}\n",
			"func f(){for x.y{continue//t\n}}":                "func f() {\n\tfor x.y {\n\t\tcontinue //t\n\t}\n}\n",
			"func f(){return}":                                "func f() {\n\treturn\n}\n",
			"func f(){return x}":                              "func f() {\n\treturn x\n}\n",
			"func f(){return//t\n}":                           "func f() {\n\treturn //t\n}\n",
			"func f(){x++;x.y--//t\n*x++}":                    "func f() {\n\tx++\n\tx.y-- //t\n\t*x++\n}\n",
			"func f(){f();x.y.z();f()()()}":                   "func f() {\n\tf()\n\tx.y.z()\n\tf()()()\n}\n",
		} {
			wantPage(t, items, width, want)
		}
	}
}

// fold is what has one group that just fits a page: its form there and on wider ones, and that on a page that is narrower by one.
type fold struct{ text, flat, broken string }

// least tells the width of the widest line.
func least(s string) int {
	n := 0
	for _, l := range strings.Split(s, "\n") {
		n = max(n, len(l)+3*strings.Count(l, "\t"))
	}
	return n
}

// P9.1: groups of items that just fit, and that don't.
func TestFoldedItems(t *testing.T) {
	for _, c := range []fold{
		{"const c=x", "const c = x\n", "const c =\n\tx\n"},
		{"const c=\"a b\"//t", "const c = \"a b\" //t\n", "const c =\n\t\"a b\" //t\n"},
		{"const c=x+y", "const c = x + y\n", "const c =\n\tx + y\n"},
		{"const c=-x.y", "const c = -x.y\n", "const c =\n\t-x.y\n"},
		{"var v=x", "var v = x\n", "var v =\n\tx\n"},
		{"var v T=x", "var v T = x\n", "var v T =\n\tx\n"},
		{"var v []T=x//t", "var v []T = x //t\n", "var v []T =\n\tx //t\n"},
		{"func f(a T){}", "func f(a T) {}\n", "func f(\n\ta T) {}\n"},
		{"func f(a T,){}", "func f(a T) {}\n", "func f(\n\ta T) {}\n"},
		{"func(r*T)f(a T,b[]U,c V)W{}//t", "func (r *T) f(a T, b []U, c V) W {} //t\n", "func (r *T) f(\n\ta T,\n\tb []U,\n\tc V) W {} //t\n"},
	} {
		n := least(c.flat)
		wantPage(t, c.text, n, c.flat)
		wantPage(t, c.text, 65535, c.flat)
		wantPage(t, c.text, n-1, c.broken)
	}
	// What stands behind a group counts up to the next break alone.
	wantPage(t, "func f(a T,b U){xxxxxxxxxxxxxxxxxxxxxxxxx()}", 19, "func f(a T, b U) {\n\txxxxxxxxxxxxxxxxxxxxxxxxx()\n}\n")
	wantPage(t, "func f(a T,b U){xxxxxxxxxxxxxxxxxxxxxxxxx()}", 17, "func f(\n\ta T,\n\tb U) {\n\txxxxxxxxxxxxxxxxxxxxxxxxx()\n}\n")
	// A group with a hard in it is never flat.
	wantPage(t, "func f(a T,b struct{c U}){}", 65535, "func f(\n\ta T,\n\tb struct {\n\t\tc U\n\t}) {}\n")
	wantPage(t, "func f(a struct{}){}", 65535, "func f(a struct {}) {}\n")
	wantPage(t, "func(r struct{a T})f(b U){}", 65535, "func (r struct {\n\ta T\n}) f(b U) {}\n")
	wantPage(t, "var v struct{a T}=x", 65535, "var v struct {\n\ta T\n} = x\n")
	wantPage(t, "var v struct{a T}=x", 5, "var v struct {\n\ta T\n} = x\n")
	wantPage(t, "var v struct{a T}=x", 4, "var v struct {\n\ta T\n} =\n\tx\n")
}

// P9.1: groups of statements that just fit, and that don't.
func TestFoldedStatements(t *testing.T) {
	for _, c := range []fold{
		{"x=y", "x = y", "x =\n\ty"},
		{"x:=y//t\n", "x := y //t", "x :=\n\ty //t"},
		{"x[y]%=f()", "x[y] %= f()", "x[y] %=\n\tf()"},
		{"*x+=y", "*x += y", "*x +=\n\ty"},
		{"(x)=(y)", "x = y", "x =\n\ty"},
		{"return x,y", "return x, y", "return x,\n\ty"},
		{"return x,y,z//t\n", "return x, y, z //t", "return x,\n\ty,\n\tz //t"},
		{"return x+y", "return x + y", "return x +\n\t\ty"},
		{"if x==y{}", "if x == y {}", "if x ==\n\ty {}"},
		{"for x<y{}", "for x < y {}", "for x <\n\ty {}"},
		{"f(x)", "f(x)", "f(\n\tx)"},
		{"f(x,y,)//t\n", "f(x, y) //t", "f(\n\tx,\n\ty) //t"},
		{"x[y]++", "x[y]++", "x[\n\ty]++"},
		{"var v=x", "var v = x", "var v =\n\tx"},
		{"{x=y}", "{\n\tx = y\n}", "{\n\tx =\n\t\ty\n}"},
		{"(x+y)()", "(x + y)()", "(\n\tx +\n\t\ty)()"},
	} {
		flat := "\t" + strings.ReplaceAll(c.flat, "\n", "\n\t")
		wantBody(t, c.text, least(flat), c.flat)
		wantBody(t, c.text, 65535, c.flat)
		wantBody(t, c.text, least(flat)-1, c.broken)
	}
}

// P9.1: lists, parentheses and operators that don't fit, within one another.
func TestNarrow(t *testing.T) {
	for _, c := range []struct {
		text  string
		width int
		want  string
	}{
		{"f(g(x,y),h[z])", 20, "f(g(x, y), h[z])"},
		{"f(g(x,y),h[zz])", 20, "f(\n\tg(x, y),\n\th[zz])"},
		{"f(g(x,y),h[zz])", 13, "f(\n\tg(\n\t\tx,\n\t\ty),\n\th[\n\t\tzz])"},
		{"f(g(x,y),h[zz])", 1, "f(\n\tg(\n\t\tx,\n\t\ty),\n\th[\n\t\tzz])"},
		{"xyz=a+b+c", 19, "xyz = a + b + c"},
		{"xyz=a+b+c", 18, "xyz =\n\ta + b + c"},
		{"xyz=a+b+c", 17, "xyz =\n\ta + b + c"},
		{"xyz=a+b+c", 16, "xyz =\n\ta + b +\n\t\tc"},
		{"xyz=a+b+c", 15, "xyz =\n\ta + b +\n\t\tc"},
		{"xyz=a+b+c", 14, "xyz =\n\ta +\n\t\tb +\n\t\tc"},
		{"x=a+b+c", 1, "x =\n\ta +\n\t\tb +\n\t\tc"},
		{"x=a+b*c", 1, "x =\n\ta +\n\t\tb *\n\t\t\tc"},
		{"x=a*b+c", 1, "x =\n\ta *\n\t\tb +\n\t\tc"},
		{"x=a*(b+c)", 1, "x =\n\ta *\n\t\t(\n\t\t\tb +\n\t\t\t\tc)"},
		{"x=-(a+b)", 1, "x =\n\t-(\n\t\ta +\n\t\t\tb)"},
		{"x=-(-a)", 1, "x =\n\t-(\n\t\t-a)"},
		{"x=-(-a)", 80, "x = -(-a)"},
		{"x=(-a).b(c)", 80, "x = (-a).b(c)"},
		{"x=(-a).b(c)", 1, "x =\n\t(\n\t\t-a).b(\n\t\tc)"},
		{"x=a.b.c.d", 1, "x =\n\ta.b.c.d"},
		{"x=a(b)(c)[d]", 1, "x =\n\ta(\n\t\tb)(\n\t\tc)[\n\t\td]"},
		{"return f(x),-y,(z)", 1, "return f(\n\t\tx),\n\t-y,\n\tz"},
		{"return f(x),-y,(z)", 17, "return f(x),\n\t-y,\n\tz"},
		{"if f(x){g()}", 1, "if f(\n\tx) {\n\tg()\n}"},
		{"if a{}else if b||c{}", 80, "if a {} else if b || c {}"},
		{"if a{}else if b||c{}", 20, "if a {} else if b ||\n\tc {}"},
		{"var v T=a", 9, "var v T =\n\ta"},
	} {
		wantBody(t, c.text, c.width, c.want)
	}
}

// P9.1: operators of each strength below each other, on both sides: just those parentheses that are needed.
func TestOperators(t *testing.T) {
	item := func(n api.Node, want string) {
		t.Helper()
		if s, e := print.Item(constOf(n), 80); s != "const c = "+want+"\n" || e != api.OK {
			t.Errorf("%v: %q, %d; want %s", n, s, e, want)
		}
	}
	x, y, z := name("x"), name("y"), name("z")
	for weak, ops := range binaries {
		for _, op := range strings.Fields(ops) {
			for strong, inners := range binaries {
				for _, in := range strings.Fields(inners) {
					left, right := "x "+in+" y", "y "+in+" z"
					if strong < weak {
						left = "(" + left + ")"
					}
					if strong <= weak {
						right = "(" + right + ")"
					}
					item(binary(op, binary(in, x, y), z), left+" "+op+" z")
					item(binary(op, x, binary(in, y, z)), "x "+op+" "+right)
					item(binary(op, binary(in, x, y), binary(in, y, z)), left+" "+op+" "+right)
				}
			}
			for _, sign := range strings.Fields(unaries) {
				item(node(api.KUnary, sign, binary(op, x, y)), sign+"(x "+op+" y)")
				item(binary(op, node(api.KUnary, sign, x), node(api.KUnary, sign, y)), sign+"x "+op+" "+sign+"y")
			}
			item(call(binary(op, x, y), binary(op, x, y)), "(x "+op+" y)(x "+op+" y)")
			item(node(api.KIndex, "", binary(op, x, y), binary(op, x, y)), "(x "+op+" y)[x "+op+" y]")
			item(node(api.KDot, "d", binary(op, x, y)), "(x "+op+" y).d")
			item(binary(op, call(x), node(api.KDot, "d", y)), "x() "+op+" y.d")
		}
	}
	for _, sign := range strings.Fields(unaries) {
		n := node(api.KUnary, sign, x)
		for _, in := range strings.Fields(unaries) {
			item(node(api.KUnary, in, n), in+"("+sign+"x)")
		}
		item(node(api.KUnary, sign, call(x)), sign+"x()")
		item(node(api.KUnary, sign, node(api.KIndex, "", x, y)), sign+"x[y]")
		item(node(api.KUnary, sign, node(api.KDot, "d", x)), sign+"x.d")
		item(call(n, n), "("+sign+"x)("+sign+"x)")
		item(node(api.KIndex, "", n, n), "("+sign+"x)["+sign+"x]")
		item(node(api.KDot, "d", n), "("+sign+"x).d")
	}
}

// P9.1: numbers, strings, names and remarks stand as they were written.
func TestTexts(t *testing.T) {
	for _, s := range []string{
		"0", "1", "90", strings.Repeat("12345678901234567890", 40), `""`, `" "`, `"\""`, `"\\"`, `"\n\x\é"`, "\"\t\r\"", `"é€😀"`, `"//"`, `";{("`, `"` + strings.Repeat("s", 300) + `"`, "x", "_", "A9_z", "iff", "Package",
	} {
		for _, width := range []int{1, 80, 65535} {
			want := "const c = " + s
			if utf8.RuneCountInString(want) > width {
				want = "const c =\n\t" + s
			}
			wantPage(t, "const c="+s, width, want+"\n")
		}
		if s[0] == '"' {
			wantPage(t, "import"+s, 1, "import "+s+"\n")
		}
	}
	for _, s := range []string{"//", "// n", "///", "//\t// n", "//;", "// }", "// é€😀", "//\"", "//  a   b", "// \r a", "//" + strings.Repeat(" n", 100)} {
		for _, width := range []int{1, 80} {
			wantPage(t, s+" \t\r\nvar v T"+s+" \t\r", width, s+"\nvar v T "+s+"\n")
			wantPage(t, "func f(){\n"+s+"\nx++;"+s+"\n"+s+"\n}", width, "func f() {\n\t"+s+"\n\tx++ "+s+"\n\t"+s+"\n}\n")
		}
	}
}
