package parse_test

import (
	"math/rand"
	"slices"
	"strings"
	"testing"

	"scarf/api"
	"scarf/lex"
	"scarf/parse"
	"scarf/tree"
)

func node(kind int, text string, kids ...api.Node) api.Node {
	return api.Node{Kind: kind, Text: text, Kids: kids}
}

func none() api.Node { return node(api.KNone, "") }

// maker makes trees by chance; those of no room are made of no more than they must be.
type maker struct{ *rand.Rand }

func (m maker) one(words string) string {
	l := strings.Fields(words)
	return l[m.Intn(len(l))]
}

func (m maker) name() string { return m.one("a b c x9 _ T packages") }

// or is, by chance, what is made, or nothing.
func (m maker) or(made api.Node) api.Node {
	if m.Intn(2) == 0 {
		return none()
	}
	return made
}

func (m maker) some(room int, make func(int) api.Node) []api.Node {
	var l []api.Node
	for range m.Intn(min(room, 4) + 1) {
		l = append(l, make(room-1))
	}
	return l
}

func (m maker) expression(room int) api.Node {
	if room > 0 {
		switch m.Intn(7) {
		case 0, 1:
			op := m.one("|| && == != < <= > >= + - | ^ * / % << >> & &^")
			return node(api.KBinary, op, m.expression(room-1), m.expression(room-1))
		case 2:
			return node(api.KUnary, m.one("- ! ^ * & +"), m.expression(room-1))
		case 3:
			return m.call(room)
		case 4:
			return node(api.KIndex, "", m.expression(room-1), m.expression(room-1))
		case 5:
			return node(api.KDot, m.name(), m.expression(room-1))
		}
	}
	switch m.Intn(4) {
	case 0:
		return node(api.KInt, m.one("0 1 20 12345678901234567890"))
	case 1:
		return node(api.KStr, m.one(`"" "s" "//" "\"" "é\\"`))
	}
	return node(api.KName, m.name())
}

func (m maker) call(room int) api.Node {
	return node(api.KCall, "", append([]api.Node{m.expression(room - 1)}, m.some(room, m.expression)...)...)
}

func (m maker) place(room int) api.Node {
	switch m.Intn(4) {
	case 0:
		return node(api.KIndex, "", m.expression(room-1), m.expression(room-1))
	case 1:
		return node(api.KDot, m.name(), m.expression(room-1))
	case 2:
		return node(api.KUnary, "*", m.expression(room-1))
	}
	return node(api.KName, m.name())
}

func (m maker) typ(room int) api.Node {
	if room > 0 {
		switch m.Intn(5) {
		case 0:
			return node(api.KPtr, "", m.typ(room-1))
		case 1:
			return node(api.KSlice, "", m.typ(room-1))
		case 2:
			return node(api.KMap, "", m.typ(room-1), m.typ(room-1))
		case 3:
			return node(api.KStruct, "", m.some(room, m.field)...)
		}
	}
	return node(api.KName, m.name())
}

// trailed gives an item a remark, by chance.
func (m maker) trailed(n api.Node) api.Node {
	if m.Intn(4) == 0 {
		n.Trail = m.remark()
	}
	return n
}

func (m maker) remark() string { return m.one("// //t ///t //t//u //é //;} //\"") }

func (m maker) field(room int) api.Node {
	if m.Intn(4) == 0 {
		return node(api.KNote, m.remark())
	}
	return m.trailed(node(api.KField, m.name(), m.typ(room)))
}

func (m maker) variable(room int) api.Node {
	typ, value := m.typ(room), m.expression(room)
	switch m.Intn(3) {
	case 0:
		typ = none()
	case 1:
		value = none()
	}
	return node(api.KVar, m.name(), typ, value)
}

func (m maker) block(room int) api.Node {
	return node(api.KBlock, "", m.some(room, m.statement)...)
}

func (m maker) branch(room int) api.Node {
	n := node(api.KIf, "", m.expression(room), m.block(room), none())
	switch m.Intn(3) {
	case 0:
		n.Kids[2] = m.block(room)
	case 1:
		if room > 0 {
			n.Kids[2] = m.branch(room - 1)
		}
	}
	return n
}

func (m maker) statement(room int) api.Node {
	switch m.Intn(12) {
	case 0:
		return node(api.KNote, m.remark())
	case 1:
		return m.trailed(m.block(room))
	case 2:
		return m.trailed(m.branch(room))
	case 3:
		return m.trailed(node(api.KFor, "", m.or(m.expression(room)), m.block(room)))
	case 4:
		return m.trailed(node(api.KReturn, "", m.some(room, m.expression)...))
	case 5:
		return m.trailed(node(api.KBreak, ""))
	case 6:
		return m.trailed(node(api.KContinue, ""))
	case 7:
		return m.trailed(node(api.KAssign, ":=", node(api.KName, m.name()), m.expression(room)))
	case 8:
		return m.trailed(node(api.KAssign, m.one("= += -= *= /= %="), m.place(room), m.expression(room)))
	case 9:
		return m.trailed(node(api.KInc, m.one("++ --"), m.place(room)))
	case 10:
		return m.trailed(m.variable(room))
	}
	return m.trailed(node(api.KDo, "", m.call(room)))
}

func (m maker) parameter(room int) api.Node {
	return node(api.KParam, m.name(), m.typ(room))
}

func (m maker) declaration(room int) api.Node {
	switch m.Intn(6) {
	case 0:
		return node(api.KNote, m.remark())
	case 1:
		return m.trailed(node(api.KConst, m.name(), m.expression(room)))
	case 2:
		return m.trailed(m.variable(room))
	case 3:
		return m.trailed(node(api.KType, m.name(), m.typ(room)))
	}
	params := node(api.KParams, "", m.some(room, m.parameter)...)
	return m.trailed(node(api.KFunc, m.name(), m.or(m.parameter(room)), params, m.or(m.typ(room)), m.block(room)))
}

func (m maker) file(room int) api.Node {
	var l []api.Node
	for range m.Intn(3) {
		l = append(l, node(api.KNote, m.remark()))
	}
	l = append(l, m.trailed(node(api.KPackage, m.name())))
	for range m.Intn(3) {
		l = append(l, m.trailed(node(api.KImport, m.one(`"" "s"`))), node(api.KNote, m.remark()))
	}
	return node(api.KFile, "", append(l, m.some(room, m.declaration)...)...)
}

// piece is a token, or what stands between two; of a token, how deep it stands, and whether it begins a node.
type piece struct {
	text   string
	token  bool
	deep   int
	begins bool
}

// writer writes a tree as pieces, and counts what is open; of so many expressions one gets parentheses that aren't needed; none, if spare is 0.
type writer struct {
	*rand.Rand
	spare  int
	open   int
	pieces []piece
}

func (w *writer) put(text string)   { w.pieces = append(w.pieces, piece{text: text, token: true}) }
func (w *writer) blank(text string) { w.pieces = append(w.pieces, piece{text: text}) }

func (w *writer) begin(text string) {
	w.pieces = append(w.pieces, piece{text: text, token: true, deep: w.open, begins: true})
}

// within writes what stands so much deeper.
func (w *writer) within(n int, write func()) {
	w.open += n
	write()
	w.open -= n
}

func (w *writer) more() bool { return w.spare > 0 && w.Intn(w.spare) == 0 }

func (w *writer) expression(n api.Node, paren bool) {
	if !paren && !w.more() {
		w.bare(n)
		return
	}
	w.begin("(")
	w.within(1, func() { w.expression(n, false) })
	w.put(")")
}

// bare writes an expression without parentheses around it.
func (w *writer) bare(n api.Node) {
	switch n.Kind {
	case api.KUnary:
		w.begin(n.Text)
		if kid := n.Kids[0]; kid.Kind == api.KUnary && !w.more() {
			w.within(2, func() { w.bare(kid) })
		} else {
			w.within(1, func() { w.expression(kid, tree.Paren(n, 0)) })
		}
	case api.KBinary:
		w.expression(n.Kids[0], tree.Paren(n, 0))
		w.put(n.Text)
		w.expression(n.Kids[1], tree.Paren(n, 1))
	case api.KCall:
		w.expression(n.Kids[0], tree.Paren(n, 0))
		w.list(n.Kids[1:], func(n api.Node) { w.expression(n, false) })
	case api.KIndex:
		w.expression(n.Kids[0], tree.Paren(n, 0))
		w.put("[")
		w.within(1, func() { w.expression(n.Kids[1], false) })
		w.put("]")
	case api.KDot:
		w.expression(n.Kids[0], tree.Paren(n, 0))
		w.put(".")
		w.put(n.Text)
	default:
		w.begin(n.Text)
	}
}

// list writes what stands between parentheses; by chance with a comma behind.
func (w *writer) list(l []api.Node, write func(api.Node)) {
	w.put("(")
	for i, n := range l {
		w.within(1, func() { write(n) })
		if i < len(l)-1 || w.more() {
			w.put(",")
		}
	}
	w.put(")")
}

func (w *writer) typ(n api.Node) {
	switch n.Kind {
	case api.KPtr:
		w.begin("*")
	case api.KSlice:
		w.begin("[")
		w.put("]")
	case api.KMap:
		w.begin("map")
		w.put("[")
		w.within(1, func() { w.typ(n.Kids[0]) })
		w.put("]")
	case api.KStruct:
		w.begin("struct")
		w.put("{")
		w.items(n.Kids)
		w.put("}")
		return
	default:
		w.begin(n.Text)
		return
	}
	w.within(1, func() { w.typ(n.Kids[len(n.Kids)-1]) })
}

func (w *writer) typed(n api.Node) {
	w.begin(n.Text)
	w.typ(n.Kids[0])
}

// items writes what stands between braces.
func (w *writer) items(l []api.Node) {
	for i, n := range l {
		w.within(1, func() { w.item(n, i == len(l)-1) })
	}
}

// item writes one and its end, which may be missing behind the last.
func (w *writer) item(n api.Node, last bool) {
	if n.Kind == api.KNote {
		if l := w.pieces; len(l) > 0 && l[len(l)-1].text == ";" {
			w.blank("\n")
		}
		w.begin(n.Text)
		w.blank("\n")
		return
	}
	w.parts(n)
	written := w.Intn(2) == 0
	switch {
	case n.Trail == "" && last && w.Intn(2) == 0:
	case n.Trail == "" && !written:
		w.blank("\n")
	case written:
		w.put(";")
	}
	if n.Trail != "" {
		w.put(n.Trail)
		w.blank("\n")
	}
}

func (w *writer) parts(n api.Node) {
	switch n.Kind {
	case api.KPackage, api.KImport:
		w.begin(map[int]string{api.KPackage: "package", api.KImport: "import"}[n.Kind])
		w.put(n.Text)
	case api.KConst:
		w.begin("const")
		w.put(n.Text)
		w.put("=")
		w.expression(n.Kids[0], false)
	case api.KType:
		w.begin("type")
		w.put(n.Text)
		w.typ(n.Kids[0])
	case api.KVar:
		w.variable(n)
	case api.KFunc:
		w.function(n)
	case api.KField:
		w.typed(n)
	default:
		w.statement(n)
	}
}

func (w *writer) variable(n api.Node) {
	w.begin("var")
	w.put(n.Text)
	if n.Kids[0].Kind != api.KNone {
		w.typ(n.Kids[0])
	}
	if n.Kids[1].Kind != api.KNone {
		w.put("=")
		w.expression(n.Kids[1], false)
	}
}

func (w *writer) function(n api.Node) {
	w.begin("func")
	if n.Kids[0].Kind != api.KNone {
		w.put("(")
		w.typed(n.Kids[0])
		w.put(")")
	}
	w.put(n.Text)
	w.list(n.Kids[1].Kids, w.typed)
	if n.Kids[2].Kind != api.KNone {
		w.typ(n.Kids[2])
	}
	w.block(n.Kids[3])
}

func (w *writer) block(n api.Node) {
	w.put("{")
	w.items(n.Kids)
	w.put("}")
}

func (w *writer) statement(n api.Node) {
	switch n.Kind {
	case api.KBlock:
		w.begin("{")
		w.items(n.Kids)
		w.put("}")
	case api.KIf:
		w.branch(n)
	case api.KFor:
		w.begin("for")
		if n.Kids[0].Kind != api.KNone {
			w.expression(n.Kids[0], false)
		}
		w.block(n.Kids[1])
	case api.KReturn:
		w.begin("return")
		for i, kid := range n.Kids {
			w.expression(kid, false)
			if i < len(n.Kids)-1 {
				w.put(",")
			}
		}
	case api.KBreak:
		w.begin("break")
	case api.KContinue:
		w.begin("continue")
	case api.KAssign:
		w.expression(n.Kids[0], false)
		w.put(n.Text)
		w.expression(n.Kids[1], false)
	case api.KInc:
		w.expression(n.Kids[0], false)
		w.put(n.Text)
	case api.KDo:
		w.expression(n.Kids[0], false)
	}
}

func (w *writer) branch(n api.Node) {
	w.begin("if")
	w.expression(n.Kids[0], false)
	w.block(n.Kids[1])
	switch n.Kids[2].Kind {
	case api.KBlock:
		w.put("else")
		w.block(n.Kids[2])
	case api.KIf:
		w.put("else")
		w.within(1, func() { w.branch(n.Kids[2]) })
	}
}

// apart tells whether two tokens need something between them.
func apart(a, b string) bool {
	l, _, e := lex.Tokens([]byte(a + b))
	return e != api.OK || len(l) < 2 || l[0].Text != a
}

// goesOn tells whether a newline behind a token puts no end in.
func goesOn(text string) bool {
	l, _, _ := lex.Tokens([]byte(text + "\n"))
	return len(l) == 1
}

// text is all pieces with blanks between them, and the place of the first token that begins a node and stands too deep; -1, if there is none.
func (w *writer) text() (string, int) {
	var b strings.Builder
	ahead, deep := "\n", -1
	for _, p := range w.pieces {
		if w.Intn(3) == 0 {
			b.WriteString(w.space(ahead))
		} else if p.token && ahead != "\n" && apart(ahead, p.text) {
			b.WriteString(" ")
		}
		if p.begins && p.deep > api.MaxDeep && deep < 0 {
			deep = b.Len()
		}
		b.WriteString(p.text)
		ahead = p.text
	}
	return b.String(), deep
}

// space is what may stand behind a token.
func (w *writer) space(ahead string) string {
	l := []string{" ", "\t", "\r", "  "}
	if ahead == "\n" || goesOn(ahead) && !strings.HasPrefix(ahead, "//") && ahead != ";" {
		l = append(l, "\n", " \n\t")
	}
	return l[w.Intn(len(l))]
}

func written(r *rand.Rand, t api.Node, spare int) (string, int) {
	w := &writer{Rand: r, spare: spare}
	for i, n := range t.Kids {
		w.item(n, i == len(t.Kids)-1)
	}
	return w.text()
}

// wantWritten holds that a tree that is written is read as it was, or that the first token that stands too deep is told.
func wantWritten(t *testing.T, r *rand.Rand, n api.Node, spare int) bool {
	t.Helper()
	program, deep := written(r, n, spare)
	if deep >= 0 {
		wantError(t, program, deep, api.ErrDeep)
		return false
	}
	got, at, e := parse.Parse([]byte(program))
	if e != api.OK || at != 0 || !tree.Same(got, n) {
		t.Fatalf("Parse(%q): %s, %d, %d; want %s", program, shown(got), at, e, shown(n))
	}
	return true
}

// P6.1 and P6.2: trees of all kinds, written with other blanks and ends, with parentheses and commas that aren't needed, are read as they were.
func TestWrittenTrees(t *testing.T) {
	r := rand.New(rand.NewSource(7))
	seen := map[int]int{}
	for range 3000 {
		n := maker{r}.file(1 + r.Intn(5))
		if !tree.Right(n) {
			t.Fatalf("%s isn't Right", shown(n))
		}
		for _, kid := range tree.All(n) {
			seen[kid.Kind]++
		}
		for _, spare := range []int{0, 2, 5} {
			wantWritten(t, r, n, spare)
		}
	}
	for kind := api.KFile; kind <= api.KNone; kind++ {
		if seen[kind] < 100 {
			t.Errorf("only %d of kind %s", seen[kind], kinds()[kind])
		}
	}
}

// wrapped is a file in which an expression or a type stands as deep as the steps make it, each of them taken by chance.
func (m maker) wrapped(steps int) api.Node {
	x := node(api.KName, "x")
	inner := m.expression(1)
	inStatements := m.Intn(steps)
	for range steps - inStatements {
		inner = m.around(inner)
	}
	statement := node(api.KReturn, "", inner)
	if m.Intn(4) == 0 {
		typ := x
		for range steps - inStatements {
			typ = m.aroundType(typ)
		}
		statement = node(api.KVar, "v", typ, none())
	}
	for range inStatements {
		statement = m.aroundStatement(statement)
	}
	body := node(api.KBlock, "", statement, node(api.KDo, "", node(api.KCall, "", inner)))
	params := node(api.KParams, "", node(api.KParam, "a", m.aroundType(x)))
	f := node(api.KFunc, "f", none(), params, none(), body)
	return node(api.KFile, "", node(api.KPackage, "p"), f, node(api.KConst, "c", inner))
}

func (m maker) around(n api.Node) api.Node {
	x := m.expression(m.Intn(2))
	switch m.Intn(8) {
	case 0, 1:
		return node(api.KUnary, m.one("- ! ^ * & +"), n)
	case 2:
		return node(api.KCall, "", x, m.expression(0), n)
	case 3:
		return node(api.KIndex, "", x, n)
	case 4:
		return node(api.KDot, "d", n)
	case 5:
		return node(api.KBinary, m.one("* + == && ||"), n, x)
	case 6:
		return node(api.KBinary, m.one("* + == && ||"), x, n)
	}
	return node(api.KCall, "", n, x)
}

func (m maker) aroundType(n api.Node) api.Node {
	x := node(api.KName, "T")
	switch m.Intn(5) {
	case 0:
		return node(api.KPtr, "", n)
	case 1:
		return node(api.KSlice, "", n)
	case 2:
		return node(api.KMap, "", n, x)
	case 3:
		return node(api.KMap, "", x, n)
	}
	return node(api.KStruct, "", node(api.KNote, "// n"), node(api.KField, "f", n), node(api.KField, "g", x))
}

func (m maker) aroundStatement(n api.Node) api.Node {
	x, empty := m.expression(1), node(api.KBlock, "")
	block := node(api.KBlock, "", n, node(api.KBreak, ""))
	switch m.Intn(5) {
	case 0:
		return block
	case 1:
		return node(api.KFor, "", m.or(x), block)
	case 2:
		return node(api.KIf, "", x, empty, block)
	case 3:
		if n.Kind == api.KIf {
			return node(api.KIf, "", x, node(api.KBlock, "", node(api.KNote, "// n")), n)
		}
	}
	return node(api.KIf, "", x, block, none())
}

// P6.1 and P6.2: trees around as deep as they may be: written with no more parentheses than they need they are programs just if they are Right;
// with more, just if no token that begins a node stands too deep.
func TestWrittenDeepTrees(t *testing.T) {
	r := rand.New(rand.NewSource(8))
	for _, spare := range []int{0, 100} {
		right := 0
		for range 600 {
			n := maker{r}.wrapped(100 + r.Intn(250))
			read := wantWritten(t, r, n, spare)
			if is := tree.Right(n); spare == 0 && read != is || read && !is {
				t.Fatalf("Right: %v; read: %v", is, read)
			}
			if read {
				right++
			}
		}
		if right < 100 || right > 500 {
			t.Errorf("%d were Right", right)
		}
	}
}

// P6.2: other blanks, parentheses that aren't needed, ends in the place of newlines: the same tree.
func TestWrittenOtherwise(t *testing.T) {
	for _, l := range [][]string{
		{"package p\n\nconst a = b + c * d\n", "package p;const a=b+c*d;", "package p\n\n\n\tconst\ta\r= (b) + (c * d)", "package\np;const\na =\n(b+\n(((c)*(d))))\n"},
		{"package p\nfunc f() {\n\tx()\n\ty++\n}\n", "package p;func f(){x();y++;}", "package p;func f(){x();y++}", "package p\nfunc f() { (x)()\n(y)++ }"},
		{"package p\ntype t struct {\n\ta T\n\tb T\n}\n", "package p;type t struct{a T;b T;}", "package p\ntype t struct { a T; b T }\n\n\n"},
		{"package p\nfunc f() {\n\tif x {\n\t} else {\n\t\treturn\n\t}\n}\n", "package p;func f(){if (x) {} else {return};};"},
		{"package p // a\n// b\n", "package p;//a\n//b"},
		{"package p\nconst a = - - b - -c\n", "package p; const a = -(-(b)) - (-(c))", "package p; const a = (- -b)- -c"},
		{"package p\nfunc f(a T, b T) {\n\tg(a, b)\n}\n", "package p;func f(a T,b T,){g(a,b,)}", "package p;func f(\na T,\nb T,\n){g(\na,\nb,\n)}"},
	} {
		want, _, e := parse.Parse([]byte(l[0]))
		if e != api.OK {
			t.Errorf("Parse(%q): %d", l[0], e)
		}
		for _, other := range l[1:] {
			got, at, e := parse.Parse([]byte(other))
			if e != api.OK || at != 0 || strings.ReplaceAll(shown(got), "// ", "//") != strings.ReplaceAll(shown(want), "// ", "//") {
				t.Errorf("Parse(%q): %s, %d, %d; want %s", other, shown(got), at, e, shown(want))
			}
		}
	}
}

// P6.2: what is read, written again, is read as the same; so it is with programs that are put together of tokens by chance.
func TestReadAndWritten(t *testing.T) {
	r := rand.New(rand.NewSource(9))
	l := slices.Concat(strings.Fields(`a b 1 "s" ( ) ( ) , . [ ] - * + && = := ++ ; f() x=1 {} if for return`), []string{"// r\n", "\n", "}"})
	read := 0
	for range 200000 {
		program := "package p\nfunc f() {"
		for range 1 + r.Intn(6) {
			program += " " + l[r.Intn(len(l))]
		}
		n, _, e := parse.Parse([]byte(program + "}"))
		if e != api.OK {
			continue
		}
		read++
		if !tree.Right(n) {
			t.Fatalf("Parse(%q): %s", program+"}", shown(n))
		}
		wantWritten(t, r, n, []int{0, 2, 5}[r.Intn(3)])
	}
	if read < 2000 {
		t.Errorf("only %d were programs", read)
	}
}
