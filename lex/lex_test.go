package lex_test

import (
	"bytes"
	"math/rand"
	"regexp"
	"slices"
	"strings"
	"testing"
	"unicode/utf8"

	"scarf/api"
	"scarf/lex"
	"scarf/utf"
)

func theWords() []string {
	return []string{"package", "import", "const", "var", "type", "func", "map", "struct", "if", "else", "for", "return", "break", "continue"}
}

func theMarks() []string {
	return strings.Fields("+ - * / % & | ^ << >> &^ && || == != < <= > >= ! = := += -= *= /= %= ++ -- ( ) [ ] { } , .")
}

// patterns are the kinds of tokens, from WordKind on, as the chapter says them.
func patterns() []*regexp.Regexp {
	l := []*regexp.Regexp{
		regexp.MustCompile(`^[A-Za-z_][A-Za-z_0-9]*`),
		regexp.MustCompile(`^(0|[1-9][0-9]*)`),
		regexp.MustCompile(`^"(\\[^\n]|[^"\\\n])*"`),
		nil,
		regexp.MustCompile(`^//([^\n]*[^\n \t\r])?`),
		regexp.MustCompile(`^;`),
	}
	var marks []string
	for _, m := range theMarks() {
		marks = append(marks, regexp.QuoteMeta(m))
	}
	l[lex.Mark-1] = regexp.MustCompile("^(" + strings.Join(marks, "|") + ")")
	for _, p := range l {
		p.Longest()
	}
	return l
}

// open tells whether an end is put in behind a token that is its line's last.
func open(t lex.Token) bool {
	switch t.Kind {
	case lex.WordKind:
		return !slices.Contains(theWords(), t.Text) || slices.Contains([]string{"return", "break", "continue"}, t.Text)
	case lex.Mark:
		return slices.Contains([]string{")", "]", "}", "++", "--"}, t.Text)
	}
	return t.Kind == lex.Number || t.Kind == lex.String
}

// putIn tells a line's tokens with the end that is put in, if one is.
func putIn(line []lex.Token) []lex.Token {
	for i := len(line) - 1; i >= 0; i-- {
		if line[i].Kind == lex.Remark {
			continue
		}
		if open(line[i]) {
			return slices.Insert(line, i+1, lex.Token{Kind: lex.End, At: line[i].At + len(line[i].Text)})
		}
		break
	}
	return line
}

// model tells what the chapter says of b: by patterns, and line by line.
func model(all []*regexp.Regexp, b []byte) ([]lex.Token, int, api.Errno) {
	if len(b) > api.MaxInput {
		return nil, 0, api.ErrLong
	}
	if !utf8.Valid(b) {
		return nil, utf.Bad(b), api.ErrText
	}
	var l, line []lex.Token
	for at := 0; at < len(b); {
		if strings.IndexByte(" \t\r\n", b[at]) >= 0 {
			if b[at] == '\n' {
				l, line = append(l, putIn(line)...), nil
			}
			at++
			continue
		}
		t := lex.Token{At: at, First: len(line) == 0}
		for i, p := range all {
			if m := p.Find(b[at:]); len(m) > len(t.Text) {
				t.Kind, t.Text = i+1, string(m)
			}
		}
		end := at + len(t.Text)
		if t.Kind == 0 || t.Text == "0" && end < len(b) && '0' <= b[end] && b[end] <= '9' {
			return nil, at, api.ErrToken
		}
		line = append(line, t)
		at = end
	}
	return append(l, putIn(line)...), 0, api.OK
}

func wantModel(t *testing.T, all []*regexp.Regexp, b []byte) {
	l, at, e := lex.Tokens(b)
	ml, mat, me := model(all, b)
	if !slices.Equal(l, ml) || at != mat || e != me {
		t.Fatalf("Tokens(%q): %v, %d, %d; want %v, %d, %d", b, l, at, e, ml, mat, me)
	}
}

// short tells tokens as texts: those that are put in as "<>", those that are a line's first with a ^ ahead.
func short(l []lex.Token) string {
	var s []string
	for _, t := range l {
		text := t.Text
		if t.Kind == lex.End && text == "" {
			text = "<>"
		}
		if t.First {
			text = "^" + text
		}
		s = append(s, text)
	}
	return strings.Join(s, " ")
}

func wantTokens(t *testing.T, program, want string) {
	t.Helper()
	l, at, e := lex.Tokens([]byte(program))
	if got := short(l); got != want || at != 0 || e != api.OK {
		t.Errorf("Tokens(%q): %s, %d, %d; want %s", program, got, at, e, want)
	}
	for _, x := range l {
		if !strings.HasPrefix(program[x.At:], x.Text) {
			t.Errorf("Tokens(%q): %q isn't at %d", program, x.Text, x.At)
		}
	}
}

func wantError(t *testing.T, program string, at int, e api.Errno) {
	t.Helper()
	l, gotAt, gotE := lex.Tokens([]byte(program))
	if len(l) != 0 || gotAt != at || gotE != e {
		t.Errorf("Tokens(%.60q): %d tokens, %d, %d; want none, %d, %d", program, len(l), gotAt, gotE, at, e)
	}
}

// P4.1: the chapter's examples, with all that a token has.
func TestTokensOfExamples(t *testing.T) {
	l, at, e := lex.Tokens([]byte("x := 1 // one\ny"))
	want := []lex.Token{
		{Kind: 1, Text: "x", At: 0, First: true},
		{Kind: 4, Text: ":=", At: 2},
		{Kind: 2, Text: "1", At: 5},
		{Kind: 6, Text: "", At: 6},
		{Kind: 5, Text: "// one", At: 7},
		{Kind: 1, Text: "y", At: 14, First: true},
		{Kind: 6, Text: "", At: 15},
	}
	if !slices.Equal(l, want) || at != 0 || e != api.OK {
		t.Error(l, at, e)
	}
	wantTokens(t, "f(\na)", "^f ( ^a ) <>")
	wantTokens(t, "a &^= b", "^a &^ = b <>")
	wantTokens(t, `"a\"b"`, `^"a\"b" <>`)
}

// P4.1: no bytes at all, and none but blanks and newlines.
func TestTokensOfNothing(t *testing.T) {
	for _, s := range []string{"", " ", "\t", "\r", "\n", "\n\n", " \t\r\n \t\r"} {
		wantTokens(t, s, "")
	}
	if l, at, e := lex.Tokens(nil); len(l) != 0 || at != 0 || e != api.OK {
		t.Error(l, at, e)
	}
}

// P4.1: MaxInput bytes, and one more, whatever else is wrong with them.
func TestTokensOfLongPrograms(t *testing.T) {
	spaces := bytes.Repeat([]byte{' '}, api.MaxInput+1)
	copy(spaces[api.MaxInput-1:], "ab")
	wantError(t, string(spaces), 0, api.ErrLong)
	l, at, e := lex.Tokens(spaces[:api.MaxInput])
	if short(l) != "^a <>" || l[0].At != api.MaxInput-1 || l[1].At != api.MaxInput || at != 0 || e != api.OK {
		t.Error(l, at, e)
	}
	wantError(t, strings.Repeat("\xff", api.MaxInput+1), 0, api.ErrLong)
	wantError(t, strings.Repeat("?", api.MaxInput+1), 0, api.ErrLong)
	wantError(t, strings.Repeat(" ", api.MaxInput-1)+"\xff", api.MaxInput-1, api.ErrText)
	wantError(t, strings.Repeat(" ", api.MaxInput-1)+"?", api.MaxInput-1, api.ErrToken)
}

// P4.1: one token that is as long as an input can be, and very many tokens.
func TestTokensAreGoneThroughOnce(t *testing.T) {
	for _, c := range []struct {
		program string
		kind, n int
	}{
		{strings.Repeat("a", api.MaxInput), lex.WordKind, 2},
		{strings.Repeat("9", api.MaxInput), lex.Number, 2},
		{`"` + strings.Repeat("a", api.MaxInput-2) + `"`, lex.String, 2},
		{"//" + strings.Repeat("a", api.MaxInput-2), lex.Remark, 1},
		{"//" + strings.Repeat(" ", api.MaxInput-2), lex.Remark, 1},
		{strings.Repeat("-", 1<<20), lex.Mark, 1<<19 + 1},
		{strings.Repeat(";", 1<<20), lex.End, 1 << 20},
		{strings.Repeat("a\n", 1<<20), lex.WordKind, 1 << 21},
		{strings.Repeat("// \n", 1<<20), lex.Remark, 1 << 20},
	} {
		l, at, e := lex.Tokens([]byte(c.program))
		if len(l) != c.n || l[0].Kind != c.kind || at != 0 || e != api.OK {
			t.Errorf("Tokens(%.8q..): %d tokens, %d, %d", c.program, len(l), at, e)
		}
	}
}

// P4.1: bytes that are no text come ahead of those that are no token.
func TestTokensOfNoText(t *testing.T) {
	wantError(t, "\xff", 0, api.ErrText)
	wantError(t, "a \x80", 2, api.ErrText)
	wantError(t, "? \"é\xc3", 5, api.ErrText)
	wantError(t, "// \xc0\x80\n", 3, api.ErrText)
	wantError(t, "007 \xed\xa0\x80", 4, api.ErrText)
	wantError(t, "\"\xf4\x90\x80\x80\"", 1, api.ErrText)
}

// P4.1: each byte that begins no token, the first of them, and none within a string or a remark.
func TestTokensOfBytesThatBeginNone(t *testing.T) {
	begins := "abcdefghijklmnopqrstuvwxyzABCDEFGHIJKLMNOPQRSTUVWXYZ_0123456789+-*/%&|^<>!=()[]{},.; \t\r\n"
	for c := range 0x80 {
		s := string(rune(c))
		if strings.Contains(begins, s) {
			if _, at, e := lex.Tokens([]byte(s)); at != 0 || e != api.OK {
				t.Errorf("Tokens(%q): %d, %d", s, at, e)
			}
			continue
		}
		wantError(t, s, 0, api.ErrToken)
		wantError(t, "ab\n "+s+" ?", 4, api.ErrToken)
	}
	for _, s := range []string{"é", "\u00a0", "€", "😀", "\ufeff", "\u2028"} {
		wantError(t, s, 0, api.ErrToken)
		wantError(t, "x"+s, 1, api.ErrToken)
		wantTokens(t, `"`+s+`" // `+s+"\n", `^"`+s+`" <> // `+s)
	}
	wantError(t, "a : = b", 2, api.ErrToken)
	wantError(t, ":", 0, api.ErrToken)
	wantError(t, "a ::= b", 2, api.ErrToken)
	wantTokens(t, "\"? # \x00 \r \x7f\" // ? # \x00 \r \x7f\n", "^\"? # \x00 \r \x7f\" <> // ? # \x00 \r \x7f")
}

// P4.1: strings, and those without an end.
func TestTokensOfStrings(t *testing.T) {
	for _, s := range []string{`""`, `"a"`, `"\""`, `"\\"`, `"\\\""`, `"\a\b\é"`, `"\\\\"`, "\"\t\\\t\r\"", `"//"`, `";"`, `"'"`, `"\\\\\"\\"`} {
		wantTokens(t, s, "^"+s+" <>")
		wantTokens(t, s+s, "^"+s+" "+s+" <>")
		if l, _, _ := lex.Tokens([]byte(s)); l[0].Kind != lex.String {
			t.Error(l)
		}
	}
	wantTokens(t, `"\\"a`, `^"\\" a <>`)
	for _, s := range []string{`"`, `"a`, `"\`, `"\"`, `"\\\"`, "\"\n\"", "\"a\nb\"", "\"\\\n\"", "\"a\\\n", "\"\\\\\n\"", `"a\`, `"é`} {
		wantError(t, s, 0, api.ErrToken)
		wantError(t, "x := "+s, 5, api.ErrToken)
	}
	wantError(t, `"a" "b`, 4, api.ErrToken)
	wantError(t, `"a"b"`, 4, api.ErrToken)
}

// P4.1: numbers, and a 0 ahead of another digit.
func TestTokensOfNumbers(t *testing.T) {
	for _, s := range []string{"0", "1", "9", "10", "100", "1234567890", "999999999999999999999999999999"} {
		wantTokens(t, s, "^"+s+" <>")
		if l, _, _ := lex.Tokens([]byte(s)); l[0].Kind != lex.Number {
			t.Error(l)
		}
	}
	wantTokens(t, "0a", "^0 a <>")
	wantTokens(t, "0x1F", "^0 x1F <>")
	wantTokens(t, "1_000", "^1 _000 <>")
	wantTokens(t, "1.50", "^1 . 50 <>")
}

// P4.1: a 0 ahead of another digit isn't a number, wherever it stands.
func TestTokensOfWrongNumbers(t *testing.T) {
	wantError(t, "00", 0, api.ErrToken)
	wantError(t, "007", 0, api.ErrToken)
	wantError(t, "01", 0, api.ErrToken)
	wantError(t, "x + 09 + 1", 4, api.ErrToken)
	wantError(t, "1.05", 2, api.ErrToken)
	wantTokens(t, "a00 // 007", "^a00 <> // 007")
}

// P4.1: each mark, and the longest of those that begin alike.
func TestTokensOfMarks(t *testing.T) {
	ends := map[string]bool{")": true, "]": true, "}": true, "++": true, "--": true}
	for _, m := range theMarks() {
		want := "^" + m
		if ends[m] {
			want += " <>"
		}
		wantTokens(t, m, want)
		wantTokens(t, "a"+m+"1", "^a "+m+" 1 <>")
		if l, _, _ := lex.Tokens([]byte(m)); l[0].Kind != lex.Mark {
			t.Error(l)
		}
	}
	wantTokens(t, "<<= >>= <- <<< >>> >=>", "^<< = >> = < - << < >> > >= >")
	wantTokens(t, "&&^ &^^ &^& &&& &= |= |||", "^&& ^ &^ ^ &^ & && & & = | = || |")
	wantTokens(t, "+++ --- ++= +-+ === !== !!= ====", "^++ + -- - ++ = + - + == = != = ! != == ==")
	wantTokens(t, ":== /=/ *** %%= ...", "^:= = /= / * * * % %= . . .")
	wantTokens(t, "+ + = = & ^", "^+ + = = & ^")
	wantTokens(t, "((]]{}", "^( ( ] ] { } <>")
}

// P4.1: remarks, without the blanks at their own end, up to a newline or the end of the program.
func TestTokensOfRemarks(t *testing.T) {
	wantTokens(t, "//", "^//")
	wantTokens(t, "// \t\r", "^//")
	wantTokens(t, "// \t\r\n", "^//")
	wantTokens(t, "//a \t b \r\n", "^//a \t b")
	wantTokens(t, "// a\r\n// b", "^// a ^// b")
	wantTokens(t, "// a // b; \"c", "^// a // b; \"c")
	wantTokens(t, "///=", "^///=")
	wantTokens(t, "/ / a", "^/ / a <>")
	wantTokens(t, "a /// b\n/", "^a <> /// b ^/")
	wantTokens(t, "// a\x0b\x0c\u00a0\n", "^// a\x0b\x0c\u00a0")
	if l, _, _ := lex.Tokens([]byte("  // a ")); !slices.Equal(l, []lex.Token{{Kind: lex.Remark, Text: "// a", At: 2, First: true}}) {
		t.Error(l)
	}
}

// P4.1: ends, written and put in: at a newline, at the end of the program, ahead of a remark.
func TestTokensOfEnds(t *testing.T) {
	wantTokens(t, ";", "^;")
	wantTokens(t, ";;\n;", "^; ; ^;")
	wantTokens(t, "a;", "^a ;")
	wantTokens(t, "a;b", "^a ; b <>")
	wantTokens(t, "a\n;b\n", "^a <> ^; b <>")
	for _, last := range []string{"a", "1", `"s"`, "return", "break", "continue", ")", "]", "}", "++", "--"} {
		wantTokens(t, last, "^"+last+" <>")
		wantTokens(t, last+"\n", "^"+last+" <>")
		wantTokens(t, last+" \t\r\n\n\n", "^"+last+" <>")
		wantTokens(t, last+" // r ", "^"+last+" <> // r")
		wantTokens(t, last+"// r\n// r\n", "^"+last+" <> // r ^// r")
		wantTokens(t, last+"\n// r\n", "^"+last+" <> ^// r")
		wantTokens(t, last+";\n", "^"+last+" ;")
		wantTokens(t, last+"; // r", "^"+last+" ; // r")
		wantTokens(t, last+" ,\n,\n", "^"+last+" , ^,")
		wantTokens(t, ","+last+"\n,", "^, "+last+" <> ^,")
		l, _, _ := lex.Tokens([]byte(" " + last + " \t// r"))
		if end := (lex.Token{Kind: lex.End, At: 1 + len(last)}); len(l) != 3 || l[1] != end {
			t.Error(l)
		}
	}
	for _, last := range append(theWords(), theMarks()...) {
		if open(lex.Token{Kind: lex.WordKind, Text: last}) || open(lex.Token{Kind: lex.Mark, Text: last}) {
			continue
		}
		for _, s := range []string{"", "\n", " \n\n"} {
			wantTokens(t, last+s, "^"+last)
		}
		wantTokens(t, last+" // r\n", "^"+last+" // r")
		wantTokens(t, "a "+last+"\n", "^a "+last)
	}
}

// P4.1: which tokens are their line's first ones: remarks and ends that are written may be, those that are put in may not.
func TestTokensOfFirst(t *testing.T) {
	wantTokens(t, " a b\n\tc\n\n  // d\n;e", "^a b <> ^c <> ^// d ^; e <>")
	wantTokens(t, "\r\n a(\n)\n", "^a ( ^) <>")
	wantTokens(t, ";// r\n;\n", "^; // r ^;")
}

// P4.1: all short rows of bytes of several kinds.
func TestTokensOfAllShortRows(t *testing.T) {
	all := patterns()
	for _, signs := range []string{"a0 \n;/", "\"\\a\n", "+=&^\n/", "/ \n)\r", "019a\n.", "<>=!-\n", "é\"/\n"} {
		row := []string{""}
		for range 5 {
			var longer []string
			for _, s := range row {
				for _, c := range signs {
					longer = append(longer, s+string(c))
				}
			}
			row = longer
			for _, s := range row {
				wantModel(t, all, []byte(s))
			}
		}
	}
}

// pieces are what programs are made of, and a little that they aren't.
func pieces() []string {
	l := append(theWords(), theMarks()...)
	l = append(l, " ", " ", "\t", "\r", "\n", "\n", "\n", ";", "//", "// r \n", `"s\""`, "0", "12", "x", "_y1", "packages", "é")
	return l
}

func mixed(r *rand.Rand, l []string) []byte {
	var b []byte
	for range r.Intn(12) {
		b = append(b, l[r.Intn(len(l))]...)
		if r.Intn(2) == 0 {
			b = append(b, ' ')
		}
	}
	return b
}

// P4.1: mixed pieces, against the chapter's words read as patterns.
func TestTokensOfMixedPieces(t *testing.T) {
	r := rand.New(rand.NewSource(4))
	all, l := patterns(), append(pieces(), "\"", "\\", "?", "\xff", ":", "00")
	for range 20000 {
		wantModel(t, all, mixed(r, l))
	}
}

// P4.2: the program's words, and what only looks like them.
func TestWord(t *testing.T) {
	for _, s := range theWords() {
		if !lex.Word(s) || lex.Name(s) {
			t.Errorf("%q is a word, and no name", s)
		}
		for _, other := range []string{s + "s", s + "1", s + "_", "_" + s, s[:len(s)-1], s[1:], strings.ToUpper(s), strings.ToUpper(s[:1]) + s[1:], s + s} {
			if lex.Word(other) || !lex.Name(other) {
				t.Errorf("%q is a name, and no word", other)
			}
		}
		for _, other := range []string{" " + s, s + " ", s + "\n", s + "\x00", s + ";", s + "é"} {
			if lex.Word(other) || lex.Name(other) {
				t.Errorf("%q is neither a word nor a name", other)
			}
		}
	}
	for _, s := range []string{"", "range", "go", "defer", "switch", "case", "interface", "goto", "nil", "true", "int", "string", "fallthrough", "default", "select", "chan"} {
		if lex.Word(s) {
			t.Errorf("%q is no word", s)
		}
	}
}

// P4.2: names, each first byte and each one behind it.
func TestName(t *testing.T) {
	for _, s := range []string{"a", "Z", "_", "__", "a0", "_9", "aB_9z", "range", strings.Repeat("x", 1<<20)} {
		if !lex.Name(s) {
			t.Errorf("%.20q is a name", s)
		}
	}
	for _, s := range []string{"", "0", "1a", " a", "a ", "a b", "a.b", "é", "aé", "a\xff", "\xff", "a-b", "\"a\"", "//", "a\n", ";", "+", strings.Repeat("x", 1<<20) + "-"} {
		if lex.Name(s) {
			t.Errorf("%.20q is no name", s)
		}
	}
	letters := regexp.MustCompile("^[A-Za-z_]$")
	more := regexp.MustCompile("^[A-Za-z_0-9]$")
	for c := range 0x100 {
		s := string([]byte{byte(c)})
		if lex.Name(s) != letters.MatchString(s) || lex.Name("q"+s) != more.MatchString(s) {
			t.Errorf("%q", s)
		}
	}
}

// P4.2: a word that stands alone in a program is one of the program's words or a name.
func TestNamesAreTokens(t *testing.T) {
	for _, s := range append(theWords(), "a", "packages", "_", "If", "if_", "ifs", "0", "+", "\"\"", "//") {
		l, _, _ := lex.Tokens([]byte(s))
		if word := l[0].Kind == lex.WordKind; word != (lex.Word(s) || lex.Name(s)) || lex.Word(s) && lex.Name(s) {
			t.Errorf("%q: %v", s, l)
		}
	}
}

// written are tokens written again: with a blank between any two, and a newline behind each remark and each end that was put in.
func written(l []lex.Token) []byte {
	var b []byte
	for i, t := range l {
		if i > 0 {
			b = append(b, ' ')
		}
		b = append(b, t.Text...)
		if t.Kind == lex.Remark || t.Kind == lex.End && t.Text == "" {
			b = append(b, '\n')
		}
	}
	return b
}

func sameButPlaces(a, b lex.Token) bool {
	return a.Kind == b.Kind && a.Text == b.Text
}

// P4.3: tokens written again are the same tokens.
func TestTokensWrittenAgain(t *testing.T) {
	r := rand.New(rand.NewSource(5))
	l, told := pieces(), 0
	for range 20000 {
		b := mixed(r, l)
		first, _, e := lex.Tokens(b)
		if e != api.OK {
			continue
		}
		told++
		again, at, e := lex.Tokens(written(first))
		if !slices.EqualFunc(first, again, sameButPlaces) || at != 0 || e != api.OK {
			t.Fatalf("%q: %v; again %v, %d, %d", b, first, again, at, e)
		}
	}
	if told < 10000 {
		t.Errorf("only %d were programs", told)
	}
}

// P4.4: neither b nor the room behind its end is changed.
func TestTokensLeaveTheirArgument(t *testing.T) {
	for _, s := range []string{"a := \"b\" // c \nd", "a", "", "?", "\xff", "//", "007"} {
		room := []byte(s + "behind")
		lex.Tokens(room[:len(s)])
		if string(room) != s+"behind" {
			t.Errorf("%q became %q", s, room)
		}
	}
}

// P4.4: what is told stays as it is when b, or another answer, is written over.
func TestTokensAreNewMemory(t *testing.T) {
	b := []byte("abc := \"def\" + 12345; // remark\nghi")
	l, _, _ := lex.Tokens(b)
	other, _, _ := lex.Tokens(b)
	want := short(l)
	for i := range b {
		b[i] = '?'
	}
	if short(l) != want || short(other) != want {
		t.Error(short(l))
	}
	l = append(l, lex.Token{})
	for i := range l {
		l[i] = lex.Token{}
	}
	if short(other) != want {
		t.Error(short(other))
	}
}
