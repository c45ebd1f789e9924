package parse_test

import (
	"maps"
	"math/rand"
	"slices"
	"strconv"
	"strings"
	"testing"

	"scarf/api"
	"scarf/lex"
	"scarf/parse"
	"scarf/tree"
)

// chapter is the chapter's grammar, but that an end stands where items do, for it may be missing behind the last one ahead of a brace;
// and that what an expression at a statement's beginning is, is told apart: NEVER is no token, so any one may be read as far as it goes.
const chapter = `
file = {REMARK} package over {import over | REMARK} {decl over | REMARK}
over = END [TRAIL]
package = "package" NAME
import = "import" STRING
decl = const | vars | type | func
const = "const" NAME "=" expr
vars = "var" NAME ( typ ["=" expr] | "=" expr )
type = "type" NAME typ
func = "func" ["(" NAME typ ")"] NAME params [typ] block
params = "(" [ NAME typ { "," NAME typ } [","] ] ")"
typ = NAME | "*" typ | "[" "]" typ | "map" "[" typ "]" typ | "struct" "{" {NAME typ over | REMARK} [NAME typ] "}"
block = "{" {stmt over | REMARK} [stmt] "}"
stmt = vars | block | if | "for" [expr] block | "return" [expr {"," expr}] | "break" | "continue" | name ":=" expr
 | place ("=" | "+=" | "-=" | "*=" | "/=" | "%=") expr | place ("++" | "--") | call | expr NEVER
if = "if" expr block [ "else" ( block | if ) ]
expr = unary { ("||" | "&&" | "==" | "!=" | "<" | "<=" | ">" | ">=" | "+" | "-" | "|" | "^" | "*" | "/" | "%" | "<<" | ">>" | "&" | "&^") unary }
unary = {"-" | "!" | "^" | "*" | "&" | "+"} rest
rest = first { calling | "[" expr "]" | "." NAME }
calling = "(" [ expr {"," expr} [","] ] ")"
first = NAME | NUMBER | STRING | "(" expr ")"
name = NAME | "(" name ")"
place = name | rest "[" expr "]" | rest "." NAME | "*" unary | "(" place ")"
call = rest calling | "(" call ")"
`

// grammar is what each symbol may be; what has no rows stands for tokens.
type grammar map[string][][]string

// readGrammar reads one; what stands in brackets gets a symbol of its own.
func readGrammar(text string) grammar {
	all, words := grammar{}, strings.Fields(spaced(text))
	var alternatives func(symbol string)
	part := func() string {
		word := words[0]
		words = words[1:]
		if !strings.Contains("([{", word) {
			return word
		}
		own := word + strconv.Itoa(len(all))
		alternatives(own)
		words = words[1:]
		for i := range all[own] {
			if word == "{" {
				all[own][i] = append([]string{own}, all[own][i]...)
			}
		}
		if word != "(" {
			all[own] = append(all[own], nil)
		}
		return own
	}
	alternatives = func(symbol string) {
		all[symbol] = [][]string{nil}
		for len(words) > 0 && !strings.Contains(")]}", words[0]) && (len(words) == 1 || words[1] != "=") {
			if words[0] == "|" {
				all[symbol] = append(all[symbol], nil)
				words = words[1:]
				continue
			}
			next := part()
			last := &all[symbol][len(all[symbol])-1]
			*last = append(*last, next)
		}
	}
	for len(words) > 0 {
		symbol := words[0]
		words = words[2:]
		alternatives(symbol)
	}
	return all
}

// spaced is a grammar with blanks around its signs, but not within its texts.
func spaced(text string) string {
	quoted := false
	var b strings.Builder
	for _, c := range text {
		if c == '"' {
			quoted = !quoted
		}
		if !quoted && strings.ContainsRune("()[]{}|", c) {
			b.WriteString(" " + string(c) + " ")
		} else {
			b.WriteRune(c)
		}
	}
	return b.String()
}

// state is a row of a symbol, the one that is due first, that is read up to some place, from some token on.
type state struct {
	due  *due
	from int
}

// due is what is left of a row of a symbol.
type due struct {
	symbol string
	next   string // none, if nothing is left
	token  bool   // whether next stands for tokens
	none   bool   // whether next may be no token at all
	behind *due
}

// compiled is a grammar's rows by symbols.
func compiled(all grammar) map[string][]*due {
	empty := map[string]bool{}
	isEmpty := func(symbol string) bool { return empty[symbol] }
	for range all {
		for symbol, rows := range all {
			for _, row := range rows {
				empty[symbol] = empty[symbol] || !slices.ContainsFunc(row, func(s string) bool { return !isEmpty(s) })
			}
		}
	}
	l := map[string][]*due{}
	for symbol, rows := range all {
		for _, row := range rows {
			d := &due{symbol: symbol}
			for _, next := range slices.Backward(row) {
				d = &due{symbol, next, all[next] == nil, empty[next], d}
			}
			l[symbol] = append(l[symbol], d)
		}
	}
	return l
}

// reader is what is read of a program, by the grammar.
type reader struct {
	rows   map[string][]*due
	states [][]state       // behind each token, and ahead of the first one
	known  map[key]*reader // of those that are one token longer; nil, if there is none
}

// key is what the grammar asks of a token.
type key struct {
	kind  int
	text  string
	first bool
}

func newReader(all grammar) *reader {
	r := &reader{rows: compiled(all)}
	var l []state
	for _, d := range r.rows["file"] {
		l = append(l, state{d, 0})
	}
	return r.with(l)
}

// with is a reader that is one row of states longer: these, and what follows from them.
func (r *reader) with(l []state) *reader {
	here := len(r.states)
	seen := map[state]bool{}
	var row []state
	add := func(s state) {
		if !seen[s] {
			seen[s] = true
			row = append(row, s)
		}
	}
	for _, s := range l {
		add(s)
	}
	for i := 0; i < len(row); i++ {
		s := row[i]
		if s.due.next == "" && s.from < here { // what is of no token at all is added below
			for _, before := range r.states[s.from] {
				if before.due.next == s.due.symbol {
					add(state{before.due.behind, before.from})
				}
			}
		}
		if s.due.none {
			add(state{s.due.behind, s.from})
		}
		for _, d := range r.rows[s.due.next] {
			add(state{d, here})
		}
	}
	return &reader{r.rows, append(slices.Clip(r.states), row), map[key]*reader{}}
}

// accepts tells whether a symbol stands for a token.
func accepts(symbol string, t lex.Token) bool {
	switch symbol {
	case "NAME":
		return t.Kind == lex.WordKind && lex.Name(t.Text)
	case "NUMBER":
		return t.Kind == lex.Number
	case "STRING":
		return t.Kind == lex.String
	case "END":
		return t.Kind == lex.End
	case "REMARK":
		return t.Kind == lex.Remark
	case "TRAIL":
		return t.Kind == lex.Remark && !t.First
	}
	return symbol == `"`+t.Text+`"`
}

// read is what is read with one token more; nil, if it can't go on with that.
func (r *reader) read(t lex.Token) *reader {
	k := key{t.Kind, t.Text, t.First}
	known, ok := r.known[k]
	if ok {
		return known
	}
	var l []state
	for _, s := range r.states[len(r.states)-1] {
		if s.due.token && accepts(s.due.next, t) {
			l = append(l, state{s.due.behind, s.from})
		}
	}
	if len(l) > 0 {
		known = r.with(l)
	}
	r.known[k] = known
	return known
}

// whole tells whether what is read is a program.
func (r *reader) whole() bool {
	return slices.ContainsFunc(r.states[len(r.states)-1], func(s state) bool { return s.due.symbol == "file" && s.due.next == "" })
}

// model tells by the grammar where a text can't go on, if it is no program.
func model(r *reader, b []byte) (int, api.Errno) {
	tokens, at, e := lex.Tokens(b)
	if e != api.OK {
		return at, e
	}
	for _, t := range tokens {
		r = r.read(t)
		if r == nil {
			return t.At, api.ErrParse
		}
	}
	if !r.whole() {
		return len(b), api.ErrParse
	}
	return 0, api.OK
}

// wantModel holds a text against the grammar, and tells whether it is a program.
func wantModel(t *testing.T, r *reader, b []byte) bool {
	t.Helper()
	at, e := model(r, b)
	n, gotAt, got := parse.Parse(b)
	if gotAt != at || got != e {
		t.Fatalf("Parse(%q): %d at %d; want %d at %d", b, got, gotAt, e, at)
	}
	if e == api.OK && !tree.Right(n) {
		t.Fatalf("Parse(%q): a tree that isn't Right", b)
	}
	return e == api.OK
}

// P6.1: all short rows of tokens at many places of a program: each row that can go on, with each token behind it.
func TestAllShortRows(t *testing.T) {
	all := newReader(readGrammar(chapter))
	const inner = "package p\nfunc f() {"
	tokens := strings.Fields(`p 1 "s" ; ( ) [ ] { } , . = := += ++ + * - ! & / == package import const var type func map struct if else for return break`)
	for _, ahead := range []string{
		"", "package p\n", "package p\nconst c = ", "package p\nvar ", "package p\ntype t ", "package p\nfunc ", "package p\nfunc (r T) ", "package p\nfunc f",
		"package p\nfunc f(a", inner, inner + "x", inner + "*x", inner + "f()", inner + "if x", inner + "if x {} ", inner + "for ", inner + "return ", inner + "x = ", inner + "f(", inner + "x[y", inner + "{",
	} {
		program := []string{ahead}
		for range 4 {
			var longer []string
			for _, s := range program {
				for _, token := range append(tokens, "// r\n", "\n") {
					next := s + " " + token
					wantModel(t, all, []byte(next+"  "))
					if at, e := model(all, []byte(next+"  ")); e == api.OK || at >= len(next) {
						longer = append(longer, next)
					}
				}
			}
			program = longer
		}
	}
}

// programs are of all that the grammar has.
func programs() []string {
	return []string{
		"// n\npackage p // t\nimport \"i\"\nimport \"j\" // t\n// n\nconst c = (a + b) * -c.d[0](1, \"s\",)\nvar v []*T\nvar v map[K]struct { a T; b T } = x\ntype t struct {\n\t// n\n\ta T // t\n\tb *T\n}\n",
		"package p\nfunc (r *T) f(a T, b []T,) map[K]V {\n\tvar v = 1 // t\n\tif a == b { return a, b } else if !c { break } else { continue; }\n\tfor { x := 1; x += 2 }\n\tfor x < y {\n\t\t*x.y[z]++\n\t}\n\tf(g(x), -(-y))\n\treturn\n}\n",
		"package p;func f() { { (x) = y }; (f()); { } } // t\n// n\nfunc g() struct {} {\n\tx.y %= !z && w || v // t\n\t// n\n\tx-- }",
	}
}

// P6.1: programs with some tokens left out, put in, or in another's place.
func TestChangedPrograms(t *testing.T) {
	all := newReader(readGrammar(chapter))
	r := rand.New(rand.NewSource(6))
	texts := strings.Fields(`p 1 "s" ; ( ) [ ] { } , . = := -= -- + * ^ < && package import const var type func map struct if else for return break continue`)
	texts = append(texts, "// r\n", "\n")
	right := 0
	for range 15000 {
		program := programs()[r.Intn(len(programs()))]
		tokens, _, _ := lex.Tokens([]byte(program))
		tokens = slices.DeleteFunc(tokens, func(t lex.Token) bool { return t.Kind == lex.End && t.Text == "" })
		i := r.Intn(len(tokens))
		from, to, text := tokens[i].At, tokens[i].At, ""
		switch r.Intn(3) {
		case 0:
			to += len(tokens[i].Text)
		case 1:
			text = " " + texts[r.Intn(len(texts))] + " "
		case 2:
			to += len(tokens[i].Text)
			text = " " + texts[r.Intn(len(texts))] + " "
		}
		if wantModel(t, all, []byte(program[:from]+text+program[to:])) {
			right++
		}
	}
	if right < 500 || right > 14000 {
		t.Errorf("%d were programs", right)
	}
}

// P6.1: programs that end at any byte.
func TestProgramsCutOff(t *testing.T) {
	all := newReader(readGrammar(chapter))
	for _, program := range programs() {
		if !wantModel(t, all, []byte(program)) {
			t.Errorf("%q is no program", program)
		}
		for i := range len(program) {
			wantModel(t, all, []byte(program[:i]))
			wantModel(t, all, []byte(program[i:]))
		}
	}
}

// The grammar that the tests hold programs against is whole: each symbol stands for tokens or has a rule that is used.
func TestGrammarIsWhole(t *testing.T) {
	all := readGrammar(chapter)
	used := map[string]bool{"file": true}
	for _, l := range all {
		for _, symbol := range slices.Concat(l...) {
			used[symbol] = true
			if symbol[0] >= 'a' && symbol[0] <= 'z' && all[symbol] == nil {
				t.Errorf("%s has no rule", symbol)
			}
		}
	}
	for symbol := range maps.Keys(all) {
		if !used[symbol] {
			t.Errorf("%s isn't used", symbol)
		}
	}
	if len(all["stmt"]) != 12 || len(all["typ"]) != 5 {
		t.Errorf("%d ways of a statement, %d of a type", len(all["stmt"]), len(all["typ"]))
	}
}
