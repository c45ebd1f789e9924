package parse_test

import (
	"bytes"
	"math/rand"
	"runtime/debug"
	"strings"
	"testing"

	"scarf/api"
	"scarf/parse"
	"scarf/tree"
)

const (
	inConst = "package p\nconst c = "
	inType  = "package p\ntype t "
	inBody  = "package p\nfunc f() {"
)

// nest is a way of standing deep: open and shut any number of times around inner; most of them may be.
type nest struct {
	ahead, open, inner, shut, behind string
	most                             int
	off                              int // from the last open that may be to what stands too deep if there are more
}

func nests() []nest {
	return []nest{
		{inConst, "(", "x", ")", "", 256, 1},
		{inConst, "-(", "x", ")", "", 128, 1},
		{inConst, "-(", "x+x", ")", "", 128, 1},
		{inConst, "- ", "x", "", "", 128, 2},
		{inConst, "!", "x", "", "", 128, 1},
		{inConst, "*&", "x", "", "", 64, 1},
		{inConst + "f(", "f(", "", ")", ")", 256, 0},
		{inConst, "f(", "x", ")", "", 256, 2},
		{inConst, "f(1,", "x", ",)", "", 256, 2},
		{inConst, "(f)(", "x", ")", "", 256, 1},
		{inConst, "x[", "y", "]", "", 256, 2},
		{inConst, "-x[", "y", "]", "", 128, 1},
		{inConst, "(x + ", "x", ")", "", 256, 1},
		{inConst, "(x + -", "x", ")", "", 128, 1},
		{inConst, "(", "x", " + x)", "", 256, 1},
		{inConst, "x.d(y[", "z", "])", "", 128, 4},
		{inConst + "((x)) + (((x))) * ", "(", "x", ")", "", 256, 1},
		{"package p\nvar v T = ", "(", "x", ")", "", 256, 1},
		{inBody + "return (x), ", "(", "x", ")", "}", 255, 1},
		{inBody + "if (x) {} else if ", "(", "x", ")", "{}}", 254, 1},
		{inBody + "for ", "(", "x", ")", "{}}", 255, 1},
		{inBody + "f(", "(", "x", ")", ")}", 254, 1},
		{inBody, "(", "x", ")", " = y}", 255, 1},
		{inBody + "x := ", "(", "x", ")", "}", 255, 1},
		{inBody + "if x {} else {} ; if ", "(", "x", ")", "{}}", 255, 1},
		{inBody + "if x {} else if y {} else {f(", "(", "x", ")", ")}}", 252, 1},
		{inType, "*", "T", "", "", 256, 1},
		{inType, "[]", "T", "", "", 256, 2},
		{inType, "map[K]", "V", "", "", 256, 4},
		{inType, "map[", "K", "]V", "", 256, 4},
		{inType, "struct{a ", "T", "}", "", 256, 7},
		{inType, "*struct{ a T; a ", "T", "}", "", 128, 1},
		{"package p\nvar v ", "*", "T", "", "", 256, 1},
		{"package p\nfunc f(a ", "*", "T", "", ") {}", 255, 1},
		{"package p\nfunc f(a T, a ", "*", "T", "", ") {}", 255, 1},
		{"package p\nfunc (r ", "*", "T", "", ") f() {}", 256, 1},
		{"package p\nfunc (r *T) f(a *T) ", "*", "T", "", " {}", 256, 1},
		{inBody + "var v ", "*", "T", "", "}", 255, 1},
		{inBody, "{", "", "}", "}", 256, 0},
		{inBody, "{", "x()", "}", "}", 255, 1},
		{inBody, "{", "// r\n", "}", "}", 255, 1},
		{inBody + "{};", "{{};", "break", "}", "}", 255, 1},
		{inBody, "if x {", "", "}", "}", 256, 0},
		{inBody, "if x {", "continue", "}", "}", 255, 6},
		{inBody, "if x {} else {", "return", "}", "}", 255, 14},
		{inBody, "if x {} else ", "if x {}", "", "}", 255, 13},
		{inBody, "if x {} else if x {", "x()", "}", "}", 127, 19},
		{inBody, "for {", "", "}", "}", 256, 0},
		{inBody, "for x {", "var x T", "}", "}", 255, 7},
	}
}

func (c nest) program(k int) string {
	return c.ahead + strings.Repeat(c.open, k) + c.inner + strings.Repeat(c.shut, k) + c.behind
}

// P6.1: each way of standing deep: as deep as may be; and one deeper, and more, of which the first token that begins a node is told.
func TestDeepest(t *testing.T) {
	for _, c := range nests() {
		for k := range c.most + 1 {
			if n, at, e := parse.Parse([]byte(c.program(k))); e != api.OK || at != 0 || !tree.Right(n) {
				t.Fatalf("%s%s of %d: %d at %d", c.ahead, c.open, k, e, at)
			}
		}
		for k := c.most + 1; k < 2*c.most+5; k++ {
			at := len(c.ahead) + c.most*len(c.open) + c.off
			if _, gotAt, e := parse.Parse([]byte(c.program(k))); e != api.ErrDeep || gotAt != at {
				t.Fatalf("%s%s of %d: %d at %d; want it at %d", c.ahead, c.open, k, e, gotAt, at)
			}
		}
	}
}

// P6.1: of two faults the one that comes first; of a token that can't go on it isn't asked how deep it stands.
func TestDeepOrWrong(t *testing.T) {
	open := func(k int) string { return strings.Repeat("(", k) }
	braces := func(k int) string { return strings.Repeat("{", k) }
	for marked, e := range map[string]api.Errno{
		inConst + open(257) + "@)":                              api.ErrParse,
		inConst + open(257) + "@":                               api.ErrParse,
		inConst + open(257) + "@;":                              api.ErrParse,
		inConst + open(257) + "@/ x":                            api.ErrParse,
		inConst + open(257) + "@// r":                           api.ErrParse,
		inConst + open(257) + "@x + )":                          api.ErrDeep,
		inConst + open(257) + "@((())":                          api.ErrDeep,
		inConst + open(257) + "@- )":                            api.ErrDeep,
		inConst + open(256) + "x @x" + open(300):                api.ErrParse,
		inConst + open(256) + "x + *@)" + open(300):             api.ErrParse,
		inConst + open(256) + "-@x":                             api.ErrDeep,
		inConst + open(256) + "-@)":                             api.ErrParse,
		inConst + open(256) + "x(@y)":                           api.ErrDeep,
		inConst + open(256) + "x(@,)":                           api.ErrParse,
		inConst + open(256) + "x[@]":                            api.ErrParse,
		inConst + open(256) + "x[@\"\"]":                        api.ErrDeep,
		inConst + open(256) + "x.d.@1":                          api.ErrParse,
		"package p; @x; const c = " + open(300):                 api.ErrParse,
		inType + strings.Repeat("*", 257) + "@T":                api.ErrDeep,
		inType + strings.Repeat("*", 257) + "@;":                api.ErrParse,
		inType + strings.Repeat("*", 257) + "@1":                api.ErrParse,
		inType + strings.Repeat("*", 256) + "map[@]":            api.ErrParse,
		inType + strings.Repeat("*", 256) + "map[@K V":          api.ErrDeep,
		inType + strings.Repeat("*", 256) + "struct { @a }":     api.ErrDeep,
		inType + strings.Repeat("*", 256) + "struct { @// r\n}": api.ErrDeep,
		inType + strings.Repeat("*", 256) + "struct { @; }":     api.ErrParse,
		inType + strings.Repeat("*", 256) + "struct { @*T }":    api.ErrParse,
		inBody + braces(256) + "@)":                             api.ErrParse,
		inBody + braces(256) + "@;":                             api.ErrParse,
		inBody + braces(256) + "@":                              api.ErrParse,
		inBody + braces(256) + "@else":                          api.ErrParse,
		inBody + braces(256) + "@// r":                          api.ErrDeep,
		inBody + braces(256) + "@x":                             api.ErrDeep,
		inBody + braces(256) + "@(":                             api.ErrDeep,
		inBody + braces(256) + "@{":                             api.ErrDeep,
		inBody + braces(256) + "@if":                            api.ErrDeep,
		inBody + braces(256) + "@for":                           api.ErrDeep,
		inBody + braces(256) + "@var":                           api.ErrDeep,
		inBody + braces(256) + "@break":                         api.ErrDeep,
		inBody + braces(256) + "@continue":                      api.ErrDeep,
		inBody + braces(256) + "@return":                        api.ErrDeep,
		inBody + braces(256) + "@*x":                            api.ErrDeep,
		inBody + braces(256) + "@1":                             api.ErrDeep,
		inBody + braces(256) + "@\"\"":                          api.ErrDeep,
		inBody + braces(256) + "}@)":                            api.ErrParse,
		inBody + braces(255) + "if x {} else @if y {}":          api.ErrDeep,
		inBody + braces(255) + "if x {} else @for":              api.ErrParse,
		inBody + braces(255) + "if x { @y() }":                  api.ErrDeep,
		inBody + braces(255) + "for { @break }":                 api.ErrDeep,
		inBody + braces(255) + "return (@x":                     api.ErrDeep,
	} {
		wantMarked(t, marked, e)
	}
}

// P6.1: what is long, but not deep: what stands behind one another, and what is shut again.
func TestLongIsNotDeep(t *testing.T) {
	const many = 1 << 16
	defer debug.SetMaxStack(debug.SetMaxStack(1 << 22))
	for program, size := range map[string]int{
		inConst + "x" + strings.Repeat(" + x", many):                                                                        4 + 2*many,
		inConst + "x" + strings.Repeat("*x+x", many):                                                                        4 + 4*many,
		inConst + "x" + strings.Repeat(".d", many):                                                                          4 + many,
		inConst + "x" + strings.Repeat("()", many):                                                                          4 + many,
		inConst + "x" + strings.Repeat("[0]", many):                                                                         4 + 2*many,
		inConst + "f(" + strings.Repeat("(x),", many) + ")":                                                                 5 + many,
		inConst + "x" + strings.Repeat(" + (x)", many):                                                                      4 + 2*many,
		inConst + "x" + strings.Repeat(" - - -x", many):                                                                     4 + 4*many,
		inBody + strings.Repeat("{}\n", many) + "}":                                                                         7 + many,
		inBody + strings.Repeat("if x { } else if y { }\n", many) + "}":                                                     7 + 7*many,
		inBody + "return 0" + strings.Repeat(", -x", many) + "}":                                                            9 + 2*many,
		inType + "struct {" + strings.Repeat("a *T\n", many) + "}":                                                          4 + 3*many,
		"package p\nfunc f(" + strings.Repeat("a *T,", many) + ") {}":                                                       7 + 3*many,
		"package p\n" + strings.Repeat("type t *T\n", many):                                                                 2 + 3*many,
		"package p\n" + strings.Repeat("// r\n", many):                                                                      2 + many,
		"package p\nvar v " + strings.Repeat("*", 256) + "T = " + strings.Repeat("(", 256) + "x" + strings.Repeat(")", 256): 261,
	} {
		n, at, e := parse.Parse([]byte(program))
		if got := tree.Size(n); e != api.OK || at != 0 || got != size {
			t.Errorf("Parse(%.40q): %d at %d, %d nodes; want %d", program, e, at, got, size)
		}
	}
}

// P1: what is nested much too deep.
func TestMuchTooDeep(t *testing.T) {
	const many = 1 << 16
	defer debug.SetMaxStack(debug.SetMaxStack(1 << 22))
	for _, c := range nests() {
		program := c.program(many / len(c.open))
		if n, _, e := parse.Parse([]byte(program)); e != api.ErrDeep || n.Kind != 0 {
			t.Errorf("%s%s: %d", c.ahead, c.open, e)
		}
	}
}

// P1: bytes of all sorts, and tokens in any order.
func TestAnyBytes(t *testing.T) {
	r := rand.New(rand.NewSource(10))
	const some = "pafx01 \n\t;(){}[],.=:+-*/&|^<>!\"\\é\xff"
	for range 30000 {
		b := make([]byte, r.Intn(12))
		for i := range b {
			b[i] = some[r.Intn(len(some))]
		}
		for _, ahead := range []string{"", inConst, inType, inBody} {
			program := append([]byte(ahead), b...)
			n, at, e := parse.Parse(program)
			switch e {
			case api.OK:
				if at != 0 || !tree.Right(n) {
					t.Fatalf("Parse(%q): %d, %s", program, at, shown(n))
				}
			case api.ErrText, api.ErrToken, api.ErrParse:
				if at < 0 || at > len(program) || n.Kind != 0 || len(n.Kids) > 0 {
					t.Fatalf("Parse(%q): %d at %d", program, e, at)
				}
			default:
				t.Fatalf("Parse(%q): %d", program, e)
			}
		}
	}
	wantError(t, "", 0, api.ErrParse)
	if _, at, e := parse.Parse(nil); at != 0 || e != api.ErrParse {
		t.Errorf("Parse(nil): %d at %d", e, at)
	}
}

// P6.3: neither b nor the room behind its end is changed.
func TestParseLeavesItsArgument(t *testing.T) {
	l := append(programs(), "", "package", "package p; x", "package p; 007", "package p; \xff", inConst+strings.Repeat("(", 300))
	for _, s := range l {
		room := []byte(s + "behind")
		parse.Parse(room[:len(s)])
		if string(room) != s+"behind" {
			t.Errorf("%q became %q", s, room)
		}
	}
}

// scribble writes over all nodes of a tree, and the room behind all lists' ends.
func scribble(n api.Node) {
	for i := range n.Kids {
		scribble(n.Kids[i])
	}
	kids := n.Kids[:cap(n.Kids)]
	for i := range kids {
		kids[i] = api.Node{Kind: 1, Text: "?", Trail: "?"}
	}
}

// wantRoom holds that no list of a tree stands in the room behind the end of another one.
func wantRoom(t *testing.T, root, n api.Node, want string) {
	t.Helper()
	for i := len(n.Kids); i < cap(n.Kids); i++ {
		n.Kids[:cap(n.Kids)][i] = api.Node{Kind: 1, Text: "?"}
	}
	if got := shown(root); got != want {
		t.Fatalf("%s, but for the room behind its lists: %s", want, got)
	}
	for _, kid := range n.Kids {
		wantRoom(t, root, kid, want)
	}
}

// P6.3: a tree stays as it is when b, or another tree of it, is written over; no two lists of a tree share memory.
func TestParseTellsNewMemory(t *testing.T) {
	for _, s := range programs() {
		b := []byte(s)
		n, _, _ := parse.Parse(b)
		other, _, _ := parse.Parse(b)
		want := shown(n)
		copy(b, bytes.Repeat([]byte("?"), len(b)))
		if shown(n) != want || shown(other) != want {
			t.Errorf("%s shows what is done to its text", shown(n))
		}
		scribble(n)
		if shown(other) != want {
			t.Errorf("%s shows what is done to another tree", shown(other))
		}
		wantRoom(t, other, other, want)
		for place := range tree.Size(other) {
			wantAlone(t, s, place)
		}
	}
}

// wantAlone holds that what is done to one node's Kids shows in no other node.
func wantAlone(t *testing.T, program string, place int) {
	t.Helper()
	n, _, _ := parse.Parse([]byte(program))
	next := 0
	var all []*api.Node
	var walk func(n *api.Node)
	walk = func(n *api.Node) {
		all = append(all, n)
		for i := range n.Kids {
			walk(&n.Kids[i])
		}
	}
	walk(&n)
	kids := all[place].Kids
	for i := range kids {
		kids[i].Trail = "changed"
	}
	for _, x := range all {
		if x.Trail == "changed" {
			next++
		}
	}
	if next != len(kids) {
		t.Errorf("%d nodes show a change of %d", next, len(kids))
	}
}
