package parse_test

import (
	"strings"
	"testing"

	"scarf/api"
	"scarf/lex"
	"scarf/parse"
	"scarf/tree"
)

func kinds() []string {
	return strings.Fields("? File Package Import Const Var Type Func Note Name Ptr Slice Map Struct Field Params Param Block If For Return " +
		"Assign Inc Do Break Continue Int Str Unary Binary Call Index Dot None")
}

// shown tells a tree as a text that no other tree has: kinds, texts, remarks behind a ~, Kids between parentheses.
func shown(n api.Node) string {
	var b strings.Builder
	var show func(n api.Node)
	show = func(n api.Node) {
		b.WriteString(kinds()[n.Kind])
		if n.Text != "" {
			b.WriteString(" " + n.Text)
		}
		if n.Trail != "" {
			b.WriteString(" ~" + n.Trail)
		}
		for i, kid := range n.Kids {
			b.WriteString([]string{"(", ", "}[min(i, 1)])
			show(kid)
		}
		if len(n.Kids) > 0 {
			b.WriteString(")")
		}
	}
	show(n)
	return b.String()
}

func wantTree(t *testing.T, program, want string) {
	t.Helper()
	n, at, e := parse.Parse([]byte(program))
	if e != api.OK || at != 0 || shown(n) != want {
		t.Errorf("Parse(%q): %s, %d, %d; want %s", program, shown(n), at, e, want)
	} else if !tree.Right(n) {
		t.Errorf("Parse(%q): a tree that isn't Right", program)
	}
}

func wantError(t *testing.T, program string, at int, e api.Errno) {
	t.Helper()
	n, gotAt, got := parse.Parse([]byte(program))
	if got != e || gotAt != at {
		t.Errorf("Parse(%.200q): %d at %d; want %d at %d", program, got, gotAt, e, at)
	}
	if n.Kind != 0 || n.Text != "" || n.Trail != "" || len(n.Kids) > 0 {
		t.Errorf("Parse(%.200q): a tree beside an error", program)
	}
}

// wantMarked holds that what begins at the first @ is told as an error; the @ is no part of the program.
func wantMarked(t *testing.T, marked string, e api.Errno) {
	t.Helper()
	ahead, behind, _ := strings.Cut(marked, "@")
	wantError(t, ahead+behind, len(ahead), e)
}

// P6.1: the chapter's and the document's examples.
func TestExamples(t *testing.T) {
	wantTree(t, "package p\nconst a = (b - c) * 2 // d", "File(Package p, Const a ~// d(Binary *(Binary -(Name b, Name c), Int 2)))")
	wantTree(t, "package p\nfunc f() { f() }", "File(Package p, Func f(None, Params, None, Block(Do(Call(Name f)))))")
	wantTree(t, "package p;var x=f(1,2)+g", "File(Package p, Var x(None, Binary +(Call(Name f, Int 1, Int 2), Name g)))")
	wantMarked(t, "package p\n@x := 1", api.ErrParse)
	wantMarked(t, "@", api.ErrParse)
	wantMarked(t, "package p; @x", api.ErrParse)
	wantMarked(t, "package p\nfunc f() { x + y@\n}", api.ErrParse)
}

// P6.1: items of a file, each in all of its forms.
func TestTreesOfItems(t *testing.T) {
	for program, want := range map[string]string{
		"":                              "",
		"import \"a\\\"b\"":             "Import \"a\\\"b\"",
		"import \"\";import\"x\"":       "Import \"\", Import \"x\"",
		"const c = 0":                   "Const c(Int 0)",
		"var v T":                       "Var v(Name T, None)",
		"var v = 1":                     "Var v(None, Int 1)",
		"var v []T = x":                 "Var v(Slice(Name T), Name x)",
		"var v struct{} = x":            "Var v(Struct, Name x)",
		"type t T":                      "Type t(Name T)",
		"type t **T":                    "Type t(Ptr(Ptr(Name T)))",
		"type t [][]*T":                 "Type t(Slice(Slice(Ptr(Name T))))",
		"type t map[K]V":                "Type t(Map(Name K, Name V))",
		"type t map[map[K]V]*map[[]K]V": "Type t(Map(Map(Name K, Name V), Ptr(Map(Slice(Name K), Name V))))",
		"type t struct { }":             "Type t(Struct)",
		"type t struct { a T }":         "Type t(Struct(Field a(Name T)))",
		"type t struct { a T; b *T; }":  "Type t(Struct(Field a(Name T), Field b(Ptr(Name T))))",
		"type t struct {\na T // r\n// n\nb struct { c T }\n}": "Type t(Struct(Field a ~// r(Name T), Note // n, Field b(Struct(Field c(Name T)))))",
		"func f() {}":                             "Func f(None, Params, None, Block)",
		"func f() T {}":                           "Func f(None, Params, Name T, Block)",
		"func f() struct { a T } {}":              "Func f(None, Params, Struct(Field a(Name T)), Block)",
		"func f(a T) {}":                          "Func f(None, Params(Param a(Name T)), None, Block)",
		"func f(a T,) {}":                         "Func f(None, Params(Param a(Name T)), None, Block)",
		"func f(a T, b *T) []T {}":                "Func f(None, Params(Param a(Name T), Param b(Ptr(Name T))), Slice(Name T), Block)",
		"func f(a T,\nb T,\n) {\n}":               "Func f(None, Params(Param a(Name T), Param b(Name T)), None, Block)",
		"func (r T) f() {}":                       "Func f(Param r(Name T), Params, None, Block)",
		"func (r *T) f(a T) map[K]V {}":           "Func f(Param r(Ptr(Name T)), Params(Param a(Name T)), Map(Name K, Name V), Block)",
		"func f() {} // t\n// n":                  "Func f ~// t(None, Params, None, Block), Note // n",
		"const a = b; var c = d; type e f":        "Const a(Name b), Var c(None, Name d), Type e(Name f)",
		"type a b\nconst c = d\nvar e f;":         "Type a(Name b), Const c(Name d), Var e(Name f, None)",
		"// n\nimport \"i\"\n// n\nconst a = b//": "Note // n, Import \"i\", Note // n, Const a ~//(Name b)",
	} {
		if want != "" {
			want = ", " + want
		}
		wantTree(t, "package p\n"+program, "File(Package p"+want+")")
		wantTree(t, "package p;\n"+program, "File(Package p"+want+")")
		wantTree(t, "// a\n// b\npackage p // c\n"+program+"\n", "File(Note // a, Note // b, Package p ~// c"+want+")")
	}
}

// inFunc is a program of one function, and what is shown of its tree.
func inFunc(statements, want string) (string, string) {
	if want != "" {
		want = "(" + want + ")"
	}
	return "package p\nfunc f() {" + statements + "}", "File(Package p, Func f(None, Params, None, Block" + want + "))"
}

// P6.1: statements, each in all of its forms; ahead of a brace with an end and without one.
func TestTreesOfStatements(t *testing.T) {
	for statements, want := range map[string]string{
		"":                     "",
		"var v T":              "Var v(Name T, None)",
		"var v = 1":            "Var v(None, Int 1)",
		"var v T = x":          "Var v(Name T, Name x)",
		"{}":                   "Block",
		"{{}; {\n}}":           "Block(Block, Block)",
		"{ return }":           "Block(Return)",
		"if x {}":              "If(Name x, Block, None)",
		"if x {} else {}":      "If(Name x, Block, Block)",
		"if x {} else if y {}": "If(Name x, Block, If(Name y, Block, None))",
		"if x {break} else if y {} else if z {} else {f()}": "If(Name x, Block(Break), If(Name y, Block, If(Name z, Block, Block(Do(Call(Name f))))))",
		"if x { if y {} else {} }":                          "If(Name x, Block(If(Name y, Block, Block)), None)",
		"for {}":                                            "For(None, Block)",
		"for x < y {continue}":                              "For(Binary <(Name x, Name y), Block(Continue))",
		"return":                                            "Return",
		"return x":                                          "Return(Name x)",
		"return x, -y,\nz":                                  "Return(Name x, Unary -(Name y), Name z)",
		"break":                                             "Break",
		"continue":                                          "Continue",
		"x := 1":                                            "Assign :=(Name x, Int 1)",
		"(x) := 1":                                          "Assign :=(Name x, Int 1)",
		"x = y":                                             "Assign =(Name x, Name y)",
		"x += y":                                            "Assign +=(Name x, Name y)",
		"x -= y":                                            "Assign -=(Name x, Name y)",
		"x *= y":                                            "Assign *=(Name x, Name y)",
		"x /= y":                                            "Assign /=(Name x, Name y)",
		"x %= y":                                            "Assign %=(Name x, Name y)",
		"x.d = y":                                           "Assign =(Dot d(Name x), Name y)",
		"x[0] = y":                                          "Assign =(Index(Name x, Int 0), Name y)",
		"*x = y":                                            "Assign =(Unary *(Name x), Name y)",
		"*x.d = y":                                          "Assign =(Unary *(Dot d(Name x)), Name y)",
		"*-x = y":                                           "Assign =(Unary *(Unary -(Name x)), Name y)",
		"*f() = y":                                          "Assign =(Unary *(Call(Name f)), Name y)",
		"(*x) = y":                                          "Assign =(Unary *(Name x), Name y)",
		"f()[0].d += y":                                     "Assign +=(Dot d(Index(Call(Name f), Int 0)), Name y)",
		"(x + y)[0] = x + y":                                "Assign =(Index(Binary +(Name x, Name y), Int 0), Binary +(Name x, Name y))",
		"x++":                                               "Inc ++(Name x)",
		"x.d--":                                             "Inc --(Dot d(Name x))",
		"*x++":                                              "Inc ++(Unary *(Name x))",
		"((x[y]))--":                                        "Inc --(Index(Name x, Name y))",
		"f()":                                               "Do(Call(Name f))",
		"(f())":                                             "Do(Call(Name f))",
		"x.f(y)":                                            "Do(Call(Dot f(Name x), Name y))",
		"(-x)(y)":                                           "Do(Call(Unary -(Name x), Name y))",
		"1(2)":                                              "Do(Call(Int 1, Int 2))",
		"\"s\"()()":                                         "Do(Call(Call(Str \"s\")))",
		"f(); g()":                                          "Do(Call(Name f)), Do(Call(Name g))",
		"x++; {}; if x {}; for {}; x()":                     "Inc ++(Name x), Block, If(Name x, Block, None), For(None, Block), Do(Call(Name x))",
	} {
		program, shown := inFunc(statements, want)
		wantTree(t, program, shown)
		if statements != "" {
			program, _ = inFunc(statements+";", want)
			wantTree(t, program, shown)
			program, _ = inFunc("\n"+statements+"\n", want)
			wantTree(t, program, shown)
		}
	}
}

// P6.1: remarks: behind an item on its line, or items of their own.
func TestTreesOfRemarks(t *testing.T) {
	for statements, want := range map[string]string{
		"// n\n":                              "Note // n",
		"\n// n\n// m\n":                      "Note // n, Note // m",
		"x() // t\n":                          "Do ~// t(Call(Name x))",
		"x(); // t\n":                         "Do ~// t(Call(Name x))",
		"x() // t\n// n\n":                    "Do ~// t(Call(Name x)), Note // n",
		"x()\n// n\n":                         "Do(Call(Name x)), Note // n",
		"x();\n// n\n":                        "Do(Call(Name x)), Note // n",
		"x(\n) // t\n":                        "Do ~// t(Call(Name x))",
		"x(); y() // t\n":                     "Do(Call(Name x)), Do ~// t(Call(Name y))",
		"var x T // t\n":                      "Var x ~// t(Name T, None)",
		"{ // n\n} // t\n":                    "Block ~// t(Note // n)",
		"{ x() // a\n} // b\n":                "Block ~// b(Do ~// a(Call(Name x)))",
		"if x { y() } // t\n":                 "If ~// t(Name x, Block(Do(Call(Name y))), None)",
		"if x { y(); } else { // n\n} // t\n": "If ~// t(Name x, Block(Do(Call(Name y))), Block(Note // n))",
		"for { break // a\n} // b\n":          "For ~// b(None, Block(Break ~// a))",
		"return // t\n":                       "Return ~// t",
		"return x // t\n":                     "Return ~// t(Name x)",
		"continue// t\n":                      "Continue ~// t",
		"x = y // t\n":                        "Assign = ~// t(Name x, Name y)",
		"x++ // t // u\n":                     "Inc ++ ~// t // u(Name x)",
		"x++ //\n//\n":                        "Inc ++ ~//(Name x), Note //",
	} {
		program, shown := inFunc(statements, want)
		wantTree(t, program, shown)
	}
}

// P6.1: expressions: what binds more strongly, what stands from the left, what is behind what.
func TestTreesOfExpressions(t *testing.T) {
	for expression, want := range map[string]string{
		"x":                 "Name x",
		"0":                 "Int 0",
		"\"\"":              "Str \"\"",
		"(((x)))":           "Name x",
		"a - b - c":         "Binary -(Binary -(Name a, Name b), Name c)",
		"a - (b - c)":       "Binary -(Name a, Binary -(Name b, Name c))",
		"(a - b) - c":       "Binary -(Binary -(Name a, Name b), Name c)",
		"a || b && c":       "Binary ||(Name a, Binary &&(Name b, Name c))",
		"a && b || c":       "Binary ||(Binary &&(Name a, Name b), Name c)",
		"a == b && c < d":   "Binary &&(Binary ==(Name a, Name b), Binary <(Name c, Name d))",
		"a < b == c":        "Binary ==(Binary <(Name a, Name b), Name c)",
		"a + b * c | d":     "Binary |(Binary +(Name a, Binary *(Name b, Name c)), Name d)",
		"a << b + c &^ d":   "Binary +(Binary <<(Name a, Name b), Binary &^(Name c, Name d))",
		"a * -b":            "Binary *(Name a, Unary -(Name b))",
		"-a * b":            "Binary *(Unary -(Name a), Name b)",
		"-(a * b)":          "Unary -(Binary *(Name a, Name b))",
		"- -a":              "Unary -(Unary -(Name a))",
		"!^*&+a":            "Unary !(Unary ^(Unary *(Unary &(Unary +(Name a)))))",
		"-(-a)":             "Unary -(Unary -(Name a))",
		"-a.b":              "Unary -(Dot b(Name a))",
		"(-a).b":            "Dot b(Unary -(Name a))",
		"*a[b](c)":          "Unary *(Call(Index(Name a, Name b), Name c))",
		"a & ^b":            "Binary &(Name a, Unary ^(Name b))",
		"a &^ b":            "Binary &^(Name a, Name b)",
		"a&*b":              "Binary &(Name a, Unary *(Name b))",
		"a && &b":           "Binary &&(Name a, Unary &(Name b))",
		"f()":               "Call(Name f)",
		"f(a)":              "Call(Name f, Name a)",
		"f(a,)":             "Call(Name f, Name a)",
		"f(a, b + c, (d))":  "Call(Name f, Name a, Binary +(Name b, Name c), Name d)",
		"f(\na,\nb,\n)":     "Call(Name f, Name a, Name b)",
		"f(a)(b)()":         "Call(Call(Call(Name f, Name a), Name b))",
		"a.b.c":             "Dot c(Dot b(Name a))",
		"a.\nb":             "Dot b(Name a)",
		"a[b[c]][d]":        "Index(Index(Name a, Index(Name b, Name c)), Name d)",
		"1.x":               "Dot x(Int 1)",
		"\"s\"[0]":          "Index(Str \"s\", Int 0)",
		"(a + b)(c)":        "Call(Binary +(Name a, Name b), Name c)",
		"(a)(b)":            "Call(Name a, Name b)",
		"a +\nb":            "Binary +(Name a, Name b)",
		"a == !b":           "Binary ==(Name a, Unary !(Name b))",
		"(a || b) && c":     "Binary &&(Binary ||(Name a, Name b), Name c)",
		"a / b % c":         "Binary %(Binary /(Name a, Name b), Name c)",
		"a ^ b - c + d | e": "Binary |(Binary +(Binary -(Binary ^(Name a, Name b), Name c), Name d), Name e)",
	} {
		wantTree(t, "package p\nconst a = "+expression, "File(Package p, Const a("+want+"))")
		program, shown := inFunc("x = "+expression+"; return "+expression+", 1; if "+expression+" {}; for "+expression+" {}; f("+expression+")",
			"Assign =(Name x, "+want+"), Return("+want+", Int 1), If("+want+", Block, None), For("+want+", Block), Do(Call(Name f, "+want+"))")
		wantTree(t, program, shown)
	}
}

// P6.1: any two operators, by how strongly they bind.
func TestTreesOfOperators(t *testing.T) {
	all := strings.Fields("|| && == != < <= > >= + - | ^ * / % << >> & &^")
	for _, a := range all {
		for _, b := range all {
			want := "Binary " + b + "(Binary " + a + "(Name x, Name y), Name z)"
			if tree.Level(b) > tree.Level(a) {
				want = "Binary " + a + "(Name x, Binary " + b + "(Name y, Name z))"
			}
			wantTree(t, "package p\nconst c = x "+a+" y "+b+" z", "File(Package p, Const c("+want+"))")
		}
	}
}

// P6.1: chapter 4's errors, though what is ahead of them is no program.
func TestErrorsOfTokens(t *testing.T) {
	for _, ahead := range []string{"", "package p\n", "package p\nx := 1\n", "}", "((("} {
		for behind, e := range map[string]api.Errno{
			"007": api.ErrToken, "?": api.ErrToken, "\"a": api.ErrToken, "'": api.ErrToken, ":": api.ErrToken, "1 + #": api.ErrToken,
			"\xff": api.ErrText, "// \xc0": api.ErrText, "? \xff": api.ErrText,
		} {
			_, at, want := lex.Tokens([]byte(ahead + behind))
			if want != e {
				t.Errorf("Tokens(%q): %d", ahead+behind, want)
			}
			wantError(t, ahead+behind, at, e)
		}
	}
	wantMarked(t, "package p\nx @? 1", api.ErrToken)
	wantMarked(t, "package p\n? @\xff 1", api.ErrText)
	long := strings.Repeat(" ", api.MaxInput-9) + "package p"
	wantTree(t, long, "File(Package p)")
	wantError(t, long+"\n", 0, api.ErrLong)
	wantError(t, strings.Repeat("\xff", api.MaxInput+1), 0, api.ErrLong)
}

// P6.1: the first token that can't go on, of a file's items.
func TestErrorsOfItems(t *testing.T) {
	for _, marked := range []string{
		"@", "  \n@", "// n\n@", "@p", "@;", "@\"s\"", "@const a = 1", "@import \"x\"\npackage p",
		"package @", "package\n@", "package @1", "package @if", "package @package", "package @\"p\"", "package @// r\np", "package @;", "package p@.q", "package p @q",
	} {
		wantMarked(t, marked, api.ErrParse)
	}
	for _, marked := range []string{
		" @package q", ";@;", "\n@;", "@}", "\n@}", "@{}", "\n@1", "\n// n\n@package q", "// n\n@p", "@\"s\"",
		"\nimport @x", "\nimport @(\"a\")", "\nimport \"a\" @\"b\"", "\nimport @", "\nimport\n@;", "\nimport @// r\n",
		"\nconst a = b\n@import \"a\"", "\n// n\ntype a b\n// n\n@import \"a\"", "\nimport \"a\"\n@package p", "\nfunc f() {}\n@package p",
		"\nconst @= 1", "\nconst a @int = 1", "\nconst a@\n= 1", "\nconst a =@", "\nconst a = @;", "\nconst a @:= 1", "\nconst a @;", "\nconst a = b@, c",
		"\nconst @func = 1", "\nconst a = 1 @const b = 1", "\nconst a = 1 @}", "\nconst a = @var", "\nconst a = 1; @b = 2", "\nconst @(", "\nconst a = 1 @= 2",
		"\nvar @= 1", "\nvar a@", "\nvar a @1", "\nvar a T @T", "\nvar a =@", "\nvar a T =@", "\nvar a@, b T", "\nvar a @(T)", "\nvar a = T@{}", "\nvar a = T @{}",
		"\ntype @*T", "\ntype a@", "\ntype a @= T", "\ntype a [@3]T", "\ntype a []@", "\ntype a *@", "\ntype a * *@;", "\ntype a @1", "\ntype a @\"s\"", "\ntype a T @T",
		"\ntype a T@.U", "\ntype a map@{", "\ntype a map[K@", "\ntype a map[K]@", "\ntype a map[@]V", "\ntype a map[K@,V]", "\ntype a @(T)", "\ntype a @&T", "\ntype a [@",
		"\ntype a @func()", "\ntype a struct@", "\ntype a struct @;", "\ntype a struct {@", "\ntype a struct { a @}", "\ntype a struct { @*T }", "\ntype a struct { a@\nT }",
		"\ntype a struct { a@, b T }", "\ntype a struct { a T @b T }", "\ntype a struct { a T@, b T }", "\ntype a struct { a T;@; }", "\ntype a struct {@; a T }",
		"\ntype a struct { a T @\"s\" }", "\ntype a struct {} @{}", "\ntype a struct { a T; @struct {} }", "\ntype a struct { a T @= 1 }", "\ntype a struct { @func }",
		"\nfunc @{}", "\nfunc f @{}", "\nfunc f()@", "\nfunc f()@\n{}", "\nfunc f() @1 {}", "\nfunc f() {@", "\nfunc f() {@)", "\nfunc f@.g() {}",
		"\nfunc f() {} @}", "\nfunc f() {} @func g() {}", "\nfunc f() T@", "\nfunc f() T @T {}", "\nfunc f() T@, T {}", "\nfunc f() T@\n{}",
		"\nfunc f(@,) {}", "\nfunc f(a T,@,) {}", "\nfunc f(a T @b T) {}", "\nfunc f(a@, b T) {}", "\nfunc f(a T@\n) {}", "\nfunc f(a@) {}", "\nfunc f(a T@;) {}",
		"\nfunc f(@*T) {}", "\nfunc f(a T, @// r\nb T) {}", "\nfunc f() @(T) {}", "\nfunc f(a @1) {}", "\nfunc f(@", "\nfunc f(a@", "\nfunc f(a T@", "\nfunc f(a T,@",
		"\nfunc (@) f() {}", "\nfunc (r T@,) f() {}", "\nfunc (r T@, s T) f() {}", "\nfunc (r T) @(s T) f() {}", "\nfunc (r T) @() {}", "\nfunc (@*T) f() {}", "\nfunc (r@) f() {}",
		"\n@return", "\n@f()", "\n@if x {}", "\n@{}", "\n@(x)", "\n@x := 1", "\n@for {}", "\n@break", "\n@else", "\n@map[K]V", "\n@struct {}", "\n@-x",
	} {
		wantMarked(t, "package p"+marked, api.ErrParse)
	}
}

// P6.1: the first token that can't go on, of statements; what an expression is, is asked behind it only.
func TestErrorsOfStatements(t *testing.T) {
	for _, marked := range []string{
		"@;", "x();@;", "{}\n@;", "@const a = 1", "@type a T", "@func() {}", "@import \"a\"", "@else {}", "@package p", "@map[K]V", "@struct {}", "@)", "@]", "@,", "@.", "@=", "@++", "@[]x",
		"x@", "x@;", "x@\n", "x@ // r\n", "x + y@", "x + y@\n", "x + y@ // r\n", "x + y @= z", "x + y @:= z", "x + y@++", "x.y@", "x[y]@", "*x@", "-x@", "(x)@", "1@", "\"s\"@", "x == y@",
		"f() @= 1", "f()@++", "f() @:= 1", "f() + 1@", "-f()@", "*f()@", "(f()) @+= 1", "1 @= x", "1@++", "\"s\" @= x", "-x @= 1", "&x @= 1", "!*x @= 1", "&x@--", "x * y @*= z", "f() @-= 1", "f() @*= 1",
		"f() @/= 1", "f() @%= 1", "f()@--", "x.y @:= 1", "x[y] @:= 1", "*x @:= 1", "(*x) @:= 1", "1 @:= x", "x := y @:= z", "x = y @= z", "x++@++", "x = y@++", "x = y@, z", "x@, y = 1", "x@, y := 1",
		"x @y", "f() @g()", "f() @{}", "x = @", "x = @;", "x =\n@", "x += @}", "x = @{}", "x @{ }", "x @}", "x = @= y", "x @else", "x @1", "x @\"s\"", "x @if", "x @!y",
		"if @{}", "if x@", "if x@\n{}", "if x @else {}", "if x {}\n@else {}", "if x {} else @x", "if x {} else @;", "if x {} else @for {}", "if x {} else if @{}", "if x {} else {} @else {}", "if @",
		"if x @= y {}", "if x @:= y {}", "if x@; y {}", "if @var", "if x {} @x()", "if x {} else if y@\n{}", "if x { // n\n} else @// r\n{}", "if x @) {}", "if x@++ {}", "if x {} else@", "if x {@)",
		"for @;", "for x@; y {}", "for x @:= y {}", "for x@\n{}", "for range @x {}", "for {} @{}", "for @var", "for x@++ {}", "for @", "for @if", "for {@", "for @// r\n{}", "for @) {}",
		"return @,", "return x,@;", "return x @y", "return x, @}", "return @var", "return (@)", "return x @= y", "return x\n@, y", "return @{}", "return x,@", "return @if", "return x,@,", "return @= x", "return\n@, x",
		"break @x", "break @1", "continue @{}", "break @break", "break @(", "continue @=",
		"var @= 1", "var x@", "var x@, y T", "var x @:= 1", "var x T @:= 1", "var x T = @", "var @", "var x T @T", "var x = y@, z", "var x @(",
		"{@", "{} @{}", "{@)", "{ x()@", "{}@(", "{ @; }", "{ x @}", "{ {} @{} }", "} @}", "} @x", "}; @x()",
		"f(@", "f(x@", "f(x@;", "f(x @y)", "f(@,)", "f(x,@,)", "f(x@\n)", "f(@// r\n)", "f(x, @// r\n)", "f(@}", "f(x @]", "f(x,@;)", "f(@;)", "f(x,@", "f(x @= y)", "f(x@++)", "f(@{})", "f(@func)",
		"x[@]", "x[y@,]", "x[y@", "x[y@\n]", "x[@,]", "x[@", "x[y @)", "x[y @z]", "x.@1", "x.@(", "x.@if", "x.@\"s\"", "x.@", "x.@;", "x.@.y",
		"x = (@)", "x = (y@", "x = (y@,)", "x = (y@\n)", "x = (@", "x = (y @]", "x = (y @z)", "x = (y @= z)", "x = ((y)@;", "x = y +@", "x = y + *@", "x = y + @)", "x = y + @/z", "x = y + @;",
		"x = y @! z", "x = @--y", "x = @++y", "x = y@--", "x = -@", "x = -@)", "x = - @/ y", "x = y & @= z", "x = @&&y", "x = y @z", "x = @if", "x = y.z@\"\"", "x = @// r\n",
		"x = @[]y", "x = @[", "x = @map", "x = y[z][@]", "x = y@{}", "x = y @{}", "x = 1 @2", "x = 1 @\"\"", "x = @.y", "x = y.@.z", "x = @struct", "x = @func", "x = @,", "x = @]", "x = y @]", "x = @<y",
	} {
		wantMarked(t, "package p\nfunc f() {"+marked, api.ErrParse)
	}
}
