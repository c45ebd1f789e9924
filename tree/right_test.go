package tree_test

import (
	"math"
	"math/rand"
	"regexp"
	"slices"
	"strings"
	"testing"

	"scarf/api"
	"scarf/tree"
)

func node(kind int, text string, kids ...api.Node) api.Node {
	return api.Node{Kind: kind, Text: text, Kids: kids}
}

// What the tests build trees of; each is Right where it may stand.
func name(s string) api.Node { return node(api.KName, s) }
func number() api.Node       { return node(api.KInt, "10") }
func none() api.Node         { return node(api.KNone, "") }
func note() api.Node         { return node(api.KNote, "// n") }
func pack() api.Node         { return node(api.KPackage, "p") }
func imports() api.Node      { return node(api.KImport, `"i"`) }

func binary(op string, a, b api.Node) api.Node { return node(api.KBinary, op, a, b) }
func unary(op string, a api.Node) api.Node     { return node(api.KUnary, op, a) }
func call(kids ...api.Node) api.Node           { return node(api.KCall, "", kids...) }
func index(a, b api.Node) api.Node             { return node(api.KIndex, "", a, b) }
func dot(a api.Node) api.Node                  { return node(api.KDot, "d", a) }
func pointer(a api.Node) api.Node              { return node(api.KPtr, "", a) }
func array(a api.Node) api.Node                { return node(api.KSlice, "", a) }
func table(a, b api.Node) api.Node             { return node(api.KMap, "", a, b) }
func fields(kids ...api.Node) api.Node         { return node(api.KStruct, "", kids...) }
func field(a api.Node) api.Node                { return node(api.KField, "f", a) }
func params(kids ...api.Node) api.Node         { return node(api.KParams, "", kids...) }
func param(a api.Node) api.Node                { return node(api.KParam, "a", a) }
func block(kids ...api.Node) api.Node          { return node(api.KBlock, "", kids...) }
func branch(a, b, c api.Node) api.Node         { return node(api.KIf, "", a, b, c) }
func loop(a, b api.Node) api.Node              { return node(api.KFor, "", a, b) }
func result(kids ...api.Node) api.Node         { return node(api.KReturn, "", kids...) }
func assign(op string, a, b api.Node) api.Node { return node(api.KAssign, op, a, b) }
func do(a api.Node) api.Node                   { return node(api.KDo, "", a) }
func constant(a api.Node) api.Node             { return node(api.KConst, "c", a) }
func variable(a, b api.Node) api.Node          { return node(api.KVar, "v", a, b) }
func named(a api.Node) api.Node                { return node(api.KType, "t", a) }
func file(items ...api.Node) api.Node          { return node(api.KFile, "", items...) }

func function(receiver, parameters, answer, body api.Node) api.Node {
	return node(api.KFunc, "f", receiver, parameters, answer, body)
}

func body(kids ...api.Node) api.Node {
	return function(none(), params(), none(), block(kids...))
}

func trailed(n api.Node) api.Node {
	n.Trail = "// t"
	return n
}

// sort is one of the sorts of nodes that the chapter tells apart where Kids are asked for: a kind, or a KUnary with *.
type sort struct {
	name string
	node api.Node // one that is Right
}

func sorts() []sort {
	x, y := name("x"), name("y")
	return []sort{
		{"File", file(pack())}, {"Package", pack()}, {"Import", imports()}, {"Const", constant(x)}, {"Var", variable(x, y)},
		{"Type", named(x)}, {"Func", body()}, {"Note", note()}, {"Name", x}, {"Ptr", pointer(x)}, {"Slice", array(x)},
		{"Map", table(x, y)}, {"Struct", fields(field(x))}, {"Field", field(x)}, {"Params", params(param(x))}, {"Param", param(x)},
		{"Block", block(result())}, {"If", branch(x, block(), none())}, {"For", loop(none(), block())}, {"Return", result(x)},
		{"Assign", assign("=", x, y)}, {"Inc", node(api.KInc, "++", x)}, {"Do", do(call(x))}, {"Break", node(api.KBreak, "")},
		{"Continue", node(api.KContinue, "")}, {"Int", number()}, {"Str", node(api.KStr, `"s"`)}, {"Unary", unary("-", x)},
		{"Binary", binary("+", x, y)}, {"Call", call(x, y)}, {"Index", index(x, y)}, {"Dot", dot(x)}, {"None", none()},
		{"Star", unary("*", x)}, {"Assign", assign(":=", x, y)}, {"Odd", node(0, "")}, {"Odd", node(34, "")}, {"Odd", node(-1, "")},
	}
}

// patterns are the Kids that the sorts of nodes ask for, as the chapter's table says them.
func patterns() map[string]*regexp.Regexp {
	all := map[string]string{
		"File":    "(Note )*Package ((Import|Note) )*((Const|Var|Type|Func|Note) )*",
		"Package": "", "Import": "", "Const": "EXPR", "Var": "(TYPE(EXPR|None )|None EXPR)", "Type": "TYPE",
		"Func": "(Param|None) Params (TYPE|None )Block ", "Note": "", "Name": "", "Ptr": "TYPE", "Slice": "TYPE", "Map": "TYPETYPE",
		"Struct": "((Field|Note) )*", "Field": "TYPE", "Params": "(Param )*", "Param": "TYPE",
		"Block": "((Var|Note|Block|If|For|Return|Assign|Inc|Do|Break|Continue) )*",
		"If":    "EXPRBlock (Block|If|None) ", "For": "(EXPR|None )Block ", "Return": "(EXPR)*", "Assign": "PLACEEXPR", "Inc": "PLACE",
		"Do": "Call ", "Break": "", "Continue": "", "Int": "", "Str": "", "Unary": "EXPR", "Star": "EXPR", "Binary": "EXPREXPR",
		"Call": "EXPR(EXPR)*", "Index": "EXPREXPR", "Dot": "EXPR", "None": "",
	}
	words := strings.NewReplacer(
		"TYPE", "((Name|Ptr|Slice|Map|Struct) )",
		"EXPR", "((Name|Int|Str|Unary|Star|Binary|Call|Index|Dot) )",
		"PLACE", "((Name|Index|Dot|Star) )")
	l := map[string]*regexp.Regexp{}
	for name, pattern := range all {
		l[name] = regexp.MustCompile("^" + words.Replace(pattern) + "$")
	}
	return l
}

// around is a KFile that is Right if n is.
func around(n api.Node) api.Node {
	switch n.Kind {
	case api.KFile:
		return n
	case api.KPackage:
		return file(n)
	case api.KImport, api.KConst, api.KVar, api.KType, api.KFunc, api.KNote:
		return file(pack(), n)
	case api.KName, api.KPtr, api.KSlice, api.KMap, api.KStruct:
		return file(pack(), named(n))
	case api.KField:
		return file(pack(), named(fields(n)))
	case api.KParams:
		return file(pack(), function(none(), n, none(), block()))
	case api.KParam:
		return file(pack(), function(none(), params(n), none(), block()))
	case api.KNone:
		return file(pack(), body(loop(n, block())))
	case api.KInt, api.KStr, api.KUnary, api.KBinary, api.KCall, api.KIndex, api.KDot:
		return file(pack(), constant(n))
	}
	return file(pack(), body(n))
}

// allowed tells whether the table allows these Kids to a node.
func allowed(l map[string]*regexp.Regexp, is sort, kids []sort) bool {
	names := ""
	for _, kid := range kids {
		names += kid.name + " "
	}
	if is.node.Text == ":=" && !strings.HasPrefix(names, "Name ") {
		return false
	}
	return l[is.name] != nil && l[is.name].MatchString(names)
}

func wantKids(t *testing.T, l map[string]*regexp.Regexp, is sort, kids ...sort) {
	t.Helper()
	n := is.node
	n.Kids = nil
	names := []string{}
	for _, kid := range kids {
		n.Kids = append(n.Kids, kid.node)
		names = append(names, kid.name)
	}
	if got, want := tree.Right(around(n)), allowed(l, is, kids); got != want {
		t.Fatalf("Right of a %s %q of %v: %v", is.name, n.Text, names, got)
	}
}

// P5.1: a node of each kind, as the table says it; and a KFile only is Right.
func TestRightOfEachKind(t *testing.T) {
	for _, is := range sorts() {
		if got, want := tree.Right(around(is.node)), is.name != "Odd"; got != want {
			t.Errorf("Right of a %s: %v", is.name, got)
		}
		if got, want := tree.Right(is.node), is.name == "File"; got != want {
			t.Errorf("Right of a %s alone: %v", is.name, got)
		}
	}
	if tree.Right(api.Node{}) {
		t.Error("the zero Node is Right")
	}
}

// P5.1: every kind with no Kid, with each one, with any two.
func TestRightOfFewKids(t *testing.T) {
	l, all := patterns(), sorts()
	for _, is := range all {
		wantKids(t, l, is)
		for _, first := range all {
			wantKids(t, l, is, first)
			for _, second := range all {
				wantKids(t, l, is, first, second)
			}
		}
	}
}

// rows are, of kinds that have three Kids and more, some that the table allows.
func rows() map[string][]string {
	return map[string][]string{
		"File":   {"Note Note Package Import Note Import Note Const Var Type Func Note", "Package Func Import", "Package Note Package"},
		"Func":   {"Param Params Name Block", "None Params None Block", "None Params Ptr Block", "Param Params Struct Block"},
		"Struct": {"Field Note Field Field", "Note Note Note"},
		"Params": {"Param Param Param"},
		"Block":  {"Var Note Block If For Return Assign Inc Do Break Continue", "Break Break Break Note"},
		"If":     {"Name Block None", "Binary Block Block", "Call Block If"},
		"Return": {"Name Int Str Unary Star Binary Call Index Dot"},
		"Call":   {"Name Int Str Unary Star Binary Call Index Dot", "Dot Name Name"},
	}
}

// P5.1: longer rows, and what they become with one Kid more, one less, one of another kind.
func TestRightOfManyKids(t *testing.T) {
	l, all := patterns(), sorts()
	for _, is := range all {
		for _, text := range rows()[is.name] {
			var row []sort
			for _, name := range strings.Fields(text) {
				at := slices.IndexFunc(all, func(s sort) bool { return s.name == name })
				row = append(row, all[at])
			}
			wantKids(t, l, is, row...)
			for i := range row {
				wantKids(t, l, is, slices.Delete(slices.Clone(row), i, i+1)...)
				for _, other := range all {
					wantKids(t, l, is, slices.Insert(slices.Clone(row), i, other)...)
					wantKids(t, l, is, slices.Replace(slices.Clone(row), i, i+1, other)...)
				}
			}
		}
	}
}

// P5.1: all short rows of what may be an item of a KFile: the KPackage once, KImport ahead of all declarations, remarks anywhere.
func TestRightOfFiles(t *testing.T) {
	l, all := patterns(), sorts()
	isFile := all[0]
	some := slices.DeleteFunc(slices.Clone(all), func(s sort) bool {
		return !slices.Contains([]string{"Package", "Import", "Const", "Var", "Type", "Func", "Note", "Return"}, s.name)
	})
	row := [][]sort{nil}
	for range 4 {
		var longer [][]sort
		for _, kids := range row {
			for _, kid := range some {
				longer = append(longer, append(slices.Clone(kids), kid))
			}
		}
		row = longer
		for _, kids := range row {
			wantKids(t, l, isFile, kids...)
		}
	}
}

// P5.1: numbers that are no kind at all, wherever they stand.
func TestRightOfNoKinds(t *testing.T) {
	all := slices.Collect(places(whole()))
	for _, kind := range []int{0, -1, 34, 35, -26, 1 << 8, 1<<8 + api.KName, 1 << 32, 1<<32 + api.KName, math.MaxInt, math.MinInt} {
		for place := range all {
			if tree.Right(changed(whole(), place, func(n *api.Node) { n.Kind = kind })) {
				t.Errorf("Right, though %d is of kind %d", place, kind)
			}
		}
	}
}

// texts are by what they are; those of "odd" are nothing.
func texts() map[string][]string {
	return map[string][]string{
		"none":   {""},
		"name":   {"x", "_", "__", "X9", "iffy", "packages", "nil", "If"},
		"word":   strings.Fields("package import const var type func map struct if else for return break continue"),
		"number": {"0", "7", "10", "12345678901234567890123"},
		"string": {`""`, `"a"`, `"a\"b"`, `"\\"`, `"é"`, "\"\t\r\"", `"//"`},
		"remark": {"//", "// a", "///", "//é", "// a // b", "// \"", "//\ta\rb"},
		"*":      {"*"}, "both": {"-", "^", "&", "+"}, "unary": {"!"},
		"binary": strings.Fields("|| && == != < <= > >= | / % << >> &^"),
		"assign": strings.Fields("= += -= *= /= %="), "define": {":="}, "inc": {"++", "--"},
		"mark": strings.Fields("( ) [ ] { } , . ;"),
		"odd": {
			" ", "\n", "\x00", "x ", " x", "x\n", "x y", "x.y", "1x", "é", "xé", "x\xff", "\xff", "00", "007", "1 ", "1\n", "-1", "1.5", "1;",
			`"`, `"a`, `a"`, `"a" `, ` "a"`, `"a""b"`, "\"\n\"", `"\"`, "\"\xff\"", "'a'", "/ /", "// ", "// a\t", "//\r", "//\n", " //", "// a\n// b",
			"x // a", "//\xff", "<-", "=>", "=!", "&&^", "&^=", "<<=", "|=", "+ ", " +", "+-", "+++", ":", "? ", "~", "* *", "|||", "#",
		},
	}
}

// P5.1: of each kind each Text: names, numbers, strings, remarks and operators, and what is none of them.
func TestRightOfTexts(t *testing.T) {
	asked := map[string]string{
		"Package": "name", "Const": "name", "Var": "name", "Type": "name", "Func": "name", "Field": "name", "Param": "name", "Name": "name",
		"Dot": "name", "Import": "string", "Str": "string", "Int": "number", "Note": "remark", "Assign": "assign define", "Inc": "inc",
		"Unary": "both unary *", "Star": "both unary *", "Binary": "both binary *",
	}
	for _, is := range sorts() {
		for what, l := range texts() {
			want := slices.Contains(strings.Fields(asked[is.name]), what)
			if asked[is.name] == "" {
				want = what == "none" && is.name != "Odd"
			}
			for _, text := range l {
				n := is.node
				n.Text = text
				if got := tree.Right(around(n)); got != want {
					t.Errorf("Right of a %s %q: %v", is.name, text, got)
				}
			}
		}
	}
}

// whole is a Right tree that has all kinds.
func whole() api.Node {
	x, y, z := name("x"), name("y"), name("z")
	var statements []api.Node
	for _, is := range sorts() {
		if slices.Contains([]string{"Var", "Note", "Block", "If", "For", "Return", "Assign", "Inc", "Do", "Break", "Continue"}, is.name) {
			statements = append(statements, is.node)
		}
	}
	return file(
		note(), pack(), imports(), note(), imports(),
		constant(binary("*", binary("-", x, number()), unary("-", unary("!", z)))),
		variable(pointer(array(x)), none()),
		variable(none(), call(index(dot(x), number()), y, node(api.KStr, `"s"`))),
		named(table(x, fields(field(y), note(), field(x)))),
		function(param(pointer(x)), params(param(x), param(y)), x, block(statements...)),
		note(),
		body(branch(x, block(result(x, y)), branch(y, block(), block(block(), note(), variable(x, none()))))),
	)
}

// places are a tree's nodes, each ahead of its Kids, and whether each one is an item.
func places(t api.Node) func(func(isItem) bool) {
	return func(yield func(isItem) bool) {
		var walk func(n api.Node, item bool) bool
		walk = func(n api.Node, item bool) bool {
			if !yield(isItem{n, item}) {
				return false
			}
			for _, kid := range n.Kids {
				if !walk(kid, n.Kind == api.KFile || n.Kind == api.KBlock || n.Kind == api.KStruct) {
					return false
				}
			}
			return true
		}
		walk(t, false)
	}
}

type isItem struct {
	node api.Node
	item bool
}

// changed is a tree of its own, in which the node at a place is another one.
func changed(t api.Node, place int, change func(n *api.Node)) api.Node {
	next := 0
	var again func(n api.Node) api.Node
	again = func(n api.Node) api.Node {
		here := next
		next++
		var kids []api.Node
		for _, kid := range n.Kids {
			kids = append(kids, again(kid))
		}
		n.Kids = kids
		if here == place {
			change(&n)
		}
		return n
	}
	return again(t)
}

// P5.1: a remark as the Trail of each node of a tree: of items that are no KNote only; and no other text.
func TestRightOfTrails(t *testing.T) {
	if !tree.Right(whole()) {
		t.Fatal("the tree isn't Right without them")
	}
	all := slices.Collect(places(whole()))
	for place, is := range all {
		for what, l := range texts() {
			for _, text := range l {
				want := what == "none" || what == "remark" && is.item && is.node.Kind != api.KNote
				got := tree.Right(changed(whole(), place, func(n *api.Node) { n.Trail = text }))
				if got != want {
					t.Fatalf("Right with the Trail %q of %d, kind %d: %v", text, place, is.node.Kind, got)
				}
			}
		}
	}
	x := name("x")
	items := branch(x, trailed(block()), none())
	if tree.Right(around(items)) || !tree.Right(around(block(trailed(block()), trailed(branch(x, block(), none()))))) {
		t.Error("a KBlock is an item in a KBlock only")
	}
	if tree.Right(around(branch(x, block(), trailed(branch(x, block(), none()))))) {
		t.Error("the KIf behind an else is no item")
	}
}

// lifted is a file in which n, a type, an expression or a statement, stands so deep.
func lifted(n api.Node, deep int) api.Node {
	switch n.Kind {
	case api.KPtr, api.KSlice, api.KMap, api.KStruct:
		n = variable(n, none())
	case api.KName, api.KInt, api.KUnary, api.KBinary, api.KCall, api.KIndex, api.KDot:
		n = result(n)
	}
	for range deep - 1 {
		n = block(n)
	}
	return file(pack(), body(n))
}

// P5.1: each way in which a Kid stands deeper: so many nodes deeper than the outermost one is the innermost one.
func TestRightOfDepths(t *testing.T) {
	x, y, z := name("x"), name("y"), name("z")
	sum, product, either := binary("+", x, y), binary("*", x, y), binary("||", x, y)
	for i, l := range [][]api.Node{
		{
			x, sum, binary("+", sum, z), binary("+", product, z), binary("+", z, product), binary("||", either, z), binary("||", z, sum),
			call(x), call(call(x)), dot(x), dot(dot(x)), dot(call(x)), call(dot(x)), fields(), block(), branch(sum, block(), none()),
			branch(x, block(), block()), loop(x, block()), loop(none(), block()), result(x, sum), assign("=", x, sum), node(api.KInc, "++", x),
			do(call(x)), variable(x, sum),
		},
		{
			binary("+", x, sum), binary("*", x, sum), binary("*", sum, x), binary("&&", either, x), binary("&&", x, either), binary("-", x, sum),
			unary("-", x), unary("*", x), binary("+", x, unary("-", y)), binary("+", unary("-", x), y), call(x, y), call(x, sum), call(x, y, z),
			call(call(x, y), z), call(sum), index(x, y), index(x, sum), index(index(x, y), z), index(sum, x), dot(sum), dot(index(x, y)),
			dot(call(x, y)), pointer(x), array(x), table(x, y), fields(field(x)), fields(note()), block(result()), block(block()),
			branch(x, block(result()), none()), branch(x, block(), block(result())), branch(x, block(), branch(y, block(), none())),
			branch(x, block(), branch(y, block(), block())), loop(x, block(result())), node(api.KInc, "--", unary("*", x)),
			assign("=", index(x, y), z), do(call(x, y)), variable(pointer(x), none()), branch(index(x, y), block(), none()), call(call(sum)),
		},
		{
			unary("-", sum), unary("*", call(x, y)), unary("-", call(sum)), call(unary("*", x)), call(unary("*", x), y), index(unary("*", x), y),
			dot(unary("*", x)), call(x, call(y, z)), call(x, index(y, z)), index(x, index(y, z)), index(x, unary("-", y)), call(x, unary("-", y)),
			binary("*", x, binary("*", y, sum)), call(x, binary("-", y, sum)), pointer(pointer(x)), array(pointer(x)), table(table(x, y), z),
			table(x, table(y, z)), table(x, array(y)), fields(field(pointer(x))), fields(field(fields(field(x)))), block(block(block())),
			branch(x, block(), branch(y, block(result()), none())), branch(x, block(), branch(y, block(), branch(z, block(), none()))),
			branch(x, block(), branch(index(x, y), block(), none())), block(branch(x, block(result()), none())), binary("*", sum, dot(unary("-", x))),
		},
		{
			unary("-", unary("-", x)), unary("!", unary("*", x)), call(x, unary("-", sum)), index(x, unary("-", sum)), pointer(unknown(2)),
			unary("-", dot(unary("*", x))), dot(unary("-", call(x, y))), branch(x, block(), branch(y, block(), branch(z, block(result()), none()))),
		},
		{unary("-", dot(unary("-", call(x, y)))), call(unary("-", unary("-", x))), index(x, unary("-", unary("-", x))), dot(unary("-", unary("-", x)))},
		{unary("-", unary("-", unary("-", x))), unary("-", binary("+", x, binary("+", y, unary("-", sum)))), table(x, pointer(unknown(3)))},
	} {
		for j, n := range l {
			if !tree.Right(lifted(n, 1)) || !tree.Right(lifted(n, api.MaxDeep-i)) {
				t.Errorf("number %d of those that are %d deep isn't Right", j, i)
			}
			if tree.Right(lifted(n, api.MaxDeep-i+1)) {
				t.Errorf("number %d of those that are %d deep is Right", j, i)
			}
		}
	}
}

// unknown is a type whose innermost one stands so much deeper.
func unknown(deep int) api.Node {
	n := name("x")
	for range deep {
		n = pointer(n)
	}
	return n
}

// P5.1: what isn't a statement stands within MaxDeep, too: from the file itself, which is 0 deep, on.
func TestRightOfDepthsOfDeclarations(t *testing.T) {
	x, most := name("x"), api.MaxDeep
	inner := func(deep int) api.Node {
		n := x
		for range deep {
			n = call(x, n)
		}
		return n
	}
	for what, c := range map[string]struct {
		most  int
		under func(deep int) api.Node
	}{
		"type":     {most, func(deep int) api.Node { return named(unknown(deep)) }},
		"variable": {most, func(deep int) api.Node { return variable(unknown(deep), x) }},
		"receiver": {most, func(deep int) api.Node { return function(param(unknown(deep)), params(), none(), block()) }},
		"result":   {most, func(deep int) api.Node { return function(none(), params(), unknown(deep), block()) }},
		"parameter": {most - 1, func(deep int) api.Node {
			return function(none(), params(param(x), param(unknown(deep))), none(), block())
		}},
		"field":       {most - 1, func(deep int) api.Node { return named(fields(field(x), note(), field(unknown(deep)))) }},
		"constant":    {most, func(deep int) api.Node { return constant(inner(deep)) }},
		"initialiser": {most, func(deep int) api.Node { return variable(none(), inner(deep)) }},
		"statement":   {most - 1, func(deep int) api.Node { return body(result(), result(x, inner(deep))) }},
		"condition":   {most - 1, func(deep int) api.Node { return body(branch(inner(deep), block(), none()), loop(inner(0), block())) }},
		"loop":        {most - 1, func(deep int) api.Node { return body(loop(inner(deep), block())) }},
		"assignment":  {most - 1, func(deep int) api.Node { return body(assign("+=", x, inner(deep))) }},
		"place":       {most - 2, func(deep int) api.Node { return body(assign("=", index(x, inner(deep)), x)) }},
		"pointed at":  {most - 2, func(deep int) api.Node { return body(node(api.KInc, "++", unary("*", inner(deep)))) }},
		"first call":  {most - 2, func(deep int) api.Node { return body(do(call(index(x, inner(deep)), x))) }},
		"later items": {most - 2, func(deep int) api.Node { return body(block(result(), do(call(x)), note(), result(inner(deep)))) }},
	} {
		for deep := range c.most + 3 {
			if got, want := tree.Right(file(pack(), c.under(deep))), deep <= c.most; got != want {
				t.Fatalf("Right of a %s of %d: %v", what, deep, got)
			}
		}
	}
}

// wrap is a way in which an expression stands in another one, neither of them a KBinary or a KUnary: how deep it stands, and how deep the deepest of the nodes beside it.
type wrap struct {
	around       func(n api.Node) api.Node
	deep, beside int
}

func wraps() []wrap {
	x, y := name("x"), name("y")
	return []wrap{
		{func(n api.Node) api.Node { return call(x, n) }, 1, 0},
		{func(n api.Node) api.Node { return call(x, y, n, y) }, 1, 1},
		{func(n api.Node) api.Node { return call(n) }, 0, 0},
		{func(n api.Node) api.Node { return call(n, x) }, 0, 1},
		{func(n api.Node) api.Node { return index(x, n) }, 1, 0},
		{func(n api.Node) api.Node { return index(n, x) }, 0, 1},
		{func(n api.Node) api.Node { return dot(n) }, 0, 0},
		{func(n api.Node) api.Node { return dot(unary("*", n)) }, 2, 1},
		{func(n api.Node) api.Node { return dot(unary("-", unary("-", n))) }, 4, 3},
		{func(n api.Node) api.Node { return call(binary("+", n, x)) }, 1, 1},
		{func(n api.Node) api.Node { return call(x, binary("+", x, n)) }, 1, 1},
		{func(n api.Node) api.Node { return call(x, binary("-", x, binary("-", y, n))) }, 2, 2},
		{func(n api.Node) api.Node { return index(binary("*", binary("+", n, y), x), y) }, 2, 2},
		{func(n api.Node) api.Node { return index(x, unary("-", binary("&", x, n))) }, 3, 3},
		{func(n api.Node) api.Node { return call(unary("-", x), n) }, 1, 2},
	}
}

// P5.1: all ways in turn, as they come, up to around MaxDeep.
func TestRightOfMixedDepths(t *testing.T) {
	r := rand.New(rand.NewSource(5))
	l, within := wraps(), 0
	for range 3000 {
		room := api.MaxDeep - 6 + r.Intn(12)
		var row []wrap
		deep, deepest := 0, 0
		for deep < room {
			w := l[r.Intn(len(l))]
			deepest = max(deepest, deep+w.beside, deep+w.deep)
			deep += w.deep
			row = append(row, w)
		}
		n := call(name("x"))
		for _, w := range slices.Backward(row) {
			n = w.around(n)
		}
		got := tree.Right(file(pack(), constant(n)))
		if want := deepest <= api.MaxDeep; got != want {
			t.Fatalf("Right of one that is %d deep: %v", deepest, got)
		}
		if got {
			within++
		}
	}
	if within < 500 || within > 2500 {
		t.Errorf("%d were within", within)
	}
}

// P5.4: a file whose items' kinds stand in order is Right just if it is so with each item alone.
func TestItemsAreToldByThemselves(t *testing.T) {
	var l []api.Node
	for _, n := range whole().Kids {
		if n.Kind != api.KPackage {
			l = append(l, n, trailed(n), changed(n, 1, func(n *api.Node) { n.Kind = api.KBreak }), changed(n, 0, func(n *api.Node) { n.Text += "?" }))
		}
	}
	rank := func(n api.Node) int {
		switch n.Kind {
		case api.KNote, api.KImport:
			return 0
		}
		return 1
	}
	r := rand.New(rand.NewSource(6))
	right := 0
	for range 3000 {
		items := []api.Node{pack()}
		want := true
		for range r.Intn(4) {
			n := l[r.Intn(len(l))]
			items = append(items, n)
			want = want && tree.Right(file(pack(), n))
		}
		slices.SortStableFunc(items[1:], func(a, b api.Node) int { return rank(a) - rank(b) })
		if got := tree.Right(file(items...)); got != want {
			t.Fatalf("%v: %v", items, got)
		}
		if want {
			right++
		}
	}
	if right < 500 || right > 2500 {
		t.Errorf("%d were Right", right)
	}
}
