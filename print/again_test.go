package print_test

import (
	"math/rand"
	"slices"
	"strings"
	"testing"

	"scarf/api"
	"scarf/lex"
	"scarf/parse"
	"scarf/print"
	"scarf/tree"
)

// holdAgain holds a program's forms for all widths against what follows from chapter 9.
func holdAgain(t *testing.T, file api.Node) {
	t.Helper()
	forms := make([]string, len(widths))
	for i, width := range widths {
		s, e := print.Print(file, width)
		if e != api.OK {
			t.Fatalf("%v for %d: %d", file, width, e)
		}
		back, at, e := parse.Parse([]byte(s))
		if e != api.OK || !tree.Same(back, file) {
			t.Fatalf("for %d %q isn't read as it was: %d at %d", width, s, e, at)
		}
		if items := itemsOf(t, file, width); items != s {
			t.Fatalf("for %d %q; item by item %q", width, s, items)
		}
		forms[i] = s
	}
	for _, s := range slices.Compact(slices.Clone(forms)) {
		for i, width := range widths {
			if got, at, e := print.Format([]byte(s), width); got != forms[i] || at != 0 || e != api.OK {
				t.Fatalf("%q for %d: %q, %d, %d; want %q", s, width, got, at, e, forms[i])
			}
		}
	}
}

// itemsOf is a file's items, with an empty line where a gap has two breaks.
func itemsOf(t *testing.T, file api.Node, width int) string {
	t.Helper()
	var b strings.Builder
	for i, n := range file.Kids {
		s, e := print.Item(n, width)
		if e != api.OK {
			t.Fatalf("Item(%v, %d): %d", n, width, e)
		}
		if i > 0 && print.Gap(file.Kids[i-1], n) == 2 {
			b.WriteByte('\n')
		}
		b.WriteString(s)
	}
	return b.String()
}

// P9.4: what is printed is read as it was; formatting again, from any width, is formatting once; a program is its items.
func TestAgain(t *testing.T) {
	for _, n := range everyItem() {
		holdAgain(t, fileOf(n))
	}
	for _, file := range everyFile() {
		holdAgain(t, file)
	}
	made(1500, func(_ int64, file api.Node) { holdAgain(t, file) })
}

// other writes a program with other blanks, newlines and ends, chosen by r.
func other(r *rand.Rand, program string) string {
	l, _, _ := lex.Tokens([]byte(program))
	l = append(l, lex.Token{})
	text := blanks(r, true)
	for i, token := range l[:len(l)-1] {
		next := l[i+1]
		switch {
		case token.Kind == lex.End:
			text += end(r, next)
		case token.Kind == lex.Remark:
			text += token.Text + blanks(r, false) + "\n" + blanks(r, true)
		default:
			text += token.Text + between(r, token, next)
		}
	}
	return text
}

// between is what may stand behind a token that is no end and no remark.
func between(r *rand.Rand, token, next lex.Token) string {
	behind, _, _ := lex.Tokens([]byte(token.Text + "\n"))
	if s := blanks(r, len(behind) == 1); s != "" || next.Kind == lex.End {
		return s
	}
	if l, _, e := lex.Tokens([]byte(token.Text + next.Text)); e != api.OK || len(l) < 2 || l[0].Text != token.Text {
		return " "
	}
	return ""
}

// end is an end, put in or written, and what may stand behind it, ahead of the next token.
func end(r *rand.Rand, next lex.Token) string {
	written := r.Intn(2) == 0
	switch {
	case next.Kind == lex.Remark && !next.First:
		// The item's own remark: it stays on the line.
		if written {
			return ";" + blanks(r, false)
		}
		return " "
	case next.Text == "}" && r.Intn(2) == 0, next == lex.Token{} && r.Intn(2) == 0:
		return blanks(r, false)
	case written && next.Kind != lex.Remark:
		return ";" + blanks(r, true)
	case written:
		return ";\n" + blanks(r, true)
	}
	return "\n" + blanks(r, true)
}

func blanks(r *rand.Rand, newlines bool) string {
	some := []string{"", "", "", " ", "\t", "\r", "  \t"}
	if newlines {
		some = append(some, "\n", " \n\t", "\n\n")
	}
	return some[r.Intn(len(some))]
}

// P9.4: programs that differ in blanks and ends alone are formatted alike.
func TestOtherBlanks(t *testing.T) {
	r := rand.New(rand.NewSource(9))
	differ := 0
	hold := func(file api.Node) {
		t.Helper()
		for _, width := range []int{1, 80} {
			s, _ := print.Print(file, width)
			for range 3 {
				written := other(r, s)
				if written != s {
					differ++
				}
				if got, at, e := print.Format([]byte(written), width); got != s || at != 0 || e != api.OK {
					t.Fatalf("%q for %d: %q, %d, %d; want %q", written, width, got, at, e, s)
				}
			}
		}
	}
	for _, file := range everyFile() {
		hold(file)
	}
	for _, n := range everyStatement() {
		hold(fileOf(bodyOf(n, n), bodyOf(n)))
	}
	made(1500, func(_ int64, file api.Node) { hold(file) })
	if differ < 9000 {
		t.Errorf("only %d were written otherwise", differ)
	}
}

// loose writes an expression with parentheses around it and each of its parts.
func loose(n api.Node) string {
	var l []string
	for _, kid := range n.Kids {
		l = append(l, loose(kid))
	}
	switch n.Kind {
	case api.KUnary:
		return "(" + n.Text + l[0] + ")"
	case api.KBinary:
		return "(" + l[0] + n.Text + l[1] + ")"
	case api.KCall:
		return "(" + l[0] + "(" + strings.Join(l[1:], ",") + "))"
	case api.KIndex:
		return "(" + l[0] + "[" + l[1] + "])"
	case api.KDot:
		return "(" + l[0] + "." + n.Text + ")"
	}
	return "((" + n.Text + "))"
}

// P9.4: programs that differ in parentheses that aren't needed are formatted alike.
func TestOtherParentheses(t *testing.T) {
	hold := func(n api.Node) {
		t.Helper()
		for _, width := range []int{1, 20, 80} {
			want, _ := print.Print(fileOf(constOf(n), bodyOf(node(api.KReturn, "", n, n), node(api.KIf, "", n, block(), none()))), width)
			s := loose(n)
			wantFormat(t, "package p;const c="+s+";func f(){return "+s+","+s+";if"+s+"{}}", width, want)
		}
	}
	for _, n := range everyExpression() {
		hold(n)
	}
	m := maker{rand.New(rand.NewSource(99))}
	for range 1000 {
		hold(m.expression(4))
	}
	for a, b := range map[string]string{
		"const a=((b)+(c*d))":                            "const a=b+c*d",
		"const a=(b+c)+d":                                "const a=b+c+d",
		"const a=(b&&c)||(d&&e)":                         "const a=b&&c||d&&e",
		"const a=((-b).c)":                               "const a=(-b).c",
		"const a=-(b.c)":                                 "const a=-b.c",
		"const a=(-(((-(b)))))":                          "const a=-(-b)",
		"const a=- -b":                                   "const a=-(-b)",
		"const a=f((b),((c)),)":                          "const a=f(b,c)",
		"const a=(f)((b+c))[(d+e)]":                      "const a=f(b+c)[d+e]",
		"func f(){(x)=(y);(*x)++;(f());(f)();(x)[y]--}":  "func f(){x=y;*x++;f();f();x[y]--}",
		"func f(){if (x==y){};for (x){};return (x),(y)}": "func f(){if x==y{};for x{};return x,y}",
		"func f(a T,b T,){}":                             "func f(a T,b T){}",
		"var v=(x);var w T=((x))":                        "var v=x;var w T=x",
	} {
		for _, width := range widths {
			want, _, e := print.Format([]byte("package p;"+b), width)
			if e != api.OK {
				t.Fatalf("%q: %d", b, e)
			}
			wantFormat(t, "package p;"+a, width, want)
		}
	}
}

// P9.4: what isn't alike in its tree isn't formatted alike.
func TestUnlike(t *testing.T) {
	seen := map[string]int{}
	for _, width := range []int{1, 80} {
		clear(seen)
		files := everyFile()
		for _, n := range everyItem() {
			files = append(files, fileOf(n))
		}
		for i, file := range files {
			s, _ := print.Print(file, width)
			if j, ok := seen[s]; ok && !tree.Same(files[j], file) {
				t.Errorf("%v and %v: %q", files[j], file, s)
			}
			seen[s] = i
		}
	}
}

// The same question has the same answer.
func TestSameAnswer(t *testing.T) {
	made(100, func(seed int64, file api.Node) {
		for _, width := range widths {
			first, e := print.Print(file, width)
			again, e2 := print.Print(tree.Copy(file), width)
			if first != again || e != e2 {
				t.Fatalf("seed %d for %d: %q, then %q", seed, width, first, again)
			}
		}
	})
}
