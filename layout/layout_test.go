package layout_test

import (
	"math"
	"strconv"
	"strings"
	"testing"

	"scarf/api"
	"scarf/doc"
	"scarf/layout"
)

// The chapter's example.
func TestExample(t *testing.T) {
	d := doc.Group(doc.Row(doc.Text("f("), doc.Nest(doc.Row(doc.Soft(), doc.Text("aaa,"), doc.Line(), doc.Text("bbb"))), doc.Text(")")))
	for width, laid := range map[int]string{
		1: "f(\n\taaa,\n\tbbb)", 10: "f(\n\taaa,\n\tbbb)", 11: "f(aaa, bbb)", 12: "f(aaa, bbb)", 65535: "f(aaa, bbb)",
	} {
		wantDoc(t, "the example", d, width, laid)
	}
}

// P8.1: a width that no page has.
func TestNoWidth(t *testing.T) {
	for _, width := range []int{0, -1, -2, -80, math.MinInt16, math.MinInt32, math.MinInt, math.MinInt + 1, 65536, 65537, 1 << 17, math.MaxInt32, math.MaxInt - 1, math.MaxInt} {
		for _, signs := range []string{"", "a", "_", "!", "[ a _ b ]", "< >", "[ ]"} {
			if got, e := layout.Of(sheetOf(t, signs).doc, width); got != "" || e != api.ErrArg {
				t.Errorf("%s for %d: %q, %d", signs, width, got, e)
			}
		}
		if got, e := layout.Of(doc.Doc{}, width); got != "" || e != 1 {
			t.Errorf("the zero value for %d: %q, %d", width, got, e)
		}
	}
}

// P8.1: the least and the greatest width.
func TestEndsOfWidth(t *testing.T) {
	for _, width := range []int{1, 2, 65534, 65535} {
		wantDoc(t, "the zero value", doc.Doc{}, width, "")
		want(t, "", width, "")
		want(t, "a", width, "a")
		want(t, "a _ b", width, "a\nb")
	}
	want(t, "[ . ]", 1, "")
	want(t, "[ _ ]", 1, " ")
	want(t, "[ a . ]", 1, "a")
	want(t, "[ a _ ]", 1, "a\n")
	want(t, "[ a . b ]", 1, "a\nb")
	want(t, "[ a . b ]", 2, "ab")
	line := func(l int) (doc.Doc, string) {
		s := strings.Repeat("x", l)
		return doc.Group(doc.Row(doc.Text(s), doc.Line(), doc.Text("y"))), s
	}
	d, s := line(65533)
	wantDoc(t, "65535 signs", d, 65535, s+" y")
	wantDoc(t, "65535 signs", d, 65534, s+"\ny")
	d, s = line(65534)
	wantDoc(t, "65536 signs", d, 65535, s+"\ny")
	wantDoc(t, "a blank between", doc.Row(doc.Text(s), doc.Group(doc.Line())), 65535, s+" ")
	wantDoc(t, "a blank, and a text", doc.Row(doc.Text(s), doc.Group(doc.Line()), doc.Text("é")), 65535, s+"\né")
}

// P8.1: bytes from 80 to bf don't count, all others do, be they text or not.
func TestWidth(t *testing.T) {
	for b := range 256 {
		one := 1
		if b >= 0x80 && b <= 0xbf {
			one = 0
		}
		for n, s := range map[int]string{0: "", 2: "ab", 3: "aé€", 1: "\x80😀\xbf"} {
			c := string([]byte{byte(b)})
			if layout.Width(s+c) != n+one || layout.Width(c+s) != n+one || layout.Width(c+s+c) != n+2*one {
				t.Errorf("byte %x about %q: %d, %d, %d", b, s, layout.Width(s+c), layout.Width(c+s), layout.Width(c+s+c))
			}
		}
	}
	for s, n := range map[string]int{
		"": 0, "a": 1, " ": 1, "\t": 1, "\n": 1, "a b\tc\n": 6, "\x00\x7f": 2, "é": 1, "é€😀": 3, "\u007f\u0080\u07ff\u0800\uffff\U00010000\U0010ffff": 7,
		"e\u0301": 2, "日本": 2, "\xff": 1, "\xc0\xc1\xfe\xff": 4, "\x80": 0, "\xbf\x80\xbf": 0, "\xc3": 1, "\xa9": 0, "\xc3\xa9\xa9": 1, "\xed\xa0\x80": 1, "\xf0\x9f\x98": 1,
		strings.Repeat("é€😀a", 1<<16): 1 << 18,
	} {
		if got := layout.Width(s); got != n {
			t.Errorf("Width(%.40q): %d; want %d", s, got, n)
		}
	}
}

// P8.1: texts are written as they are, and all that is in them counts by its bytes.
func TestTexts(t *testing.T) {
	for _, s := range []string{"a", "  ", " a ", "\t", "\ta", "\n", "\n\n", "a\nb", "\r\n", "\x00", "\x80", "\xff", "\xc3", "\xed\xa0\x80", "é", "€", "😀", "é€😀\xbf\xbf"} {
		d := doc.Row(doc.Text(s), doc.Group(doc.Row(doc.Line(), doc.Text(s))), doc.Nest(doc.Row(doc.Hard(), doc.Text(s))))
		n, name := wide(s), strconv.Quote(s)
		wantDoc(t, name, doc.Text(s), 1, s)
		wantDoc(t, name, d, 2*n+1, s+" "+s+"\n\t"+s)
		if n > 0 {
			wantDoc(t, name, d, 2*n, s+"\n"+s+"\n\t"+s)
		}
	}
	want(t, `"a\nb" [ _ c ]`, 5, "a\nb c")
	want(t, `"a\nb" [ _ c ]`, 4, "a\nb\nc")
	want(t, `< ! "a\nb" ! "\n" ! "\t" ! "\x20" >`, 9, "\n\ta\nb\n\t\n\n\t\t\n\t ")
	want(t, `< ! "" ! a >`, 9, "\n\n\ta")
	want(t, `< ! [ "" ] "" b >`, 9, "\n\tb")
}

// P8.1: breaks in no group, and the nests at them.
func TestBreaksAndNests(t *testing.T) {
	for _, c := range []struct{ signs, laid string }{
		{"_", "\n"},
		{".", "\n"},
		{"!", "\n"},
		{"_ . !", "\n\n\n"},
		{"a _ b . c ! d", "a\nb\nc\nd"},
		{"a < _ b >", "a\n\tb"},
		{"a < . b >", "a\n\tb"},
		{"a < ! b >", "a\n\tb"},
		{"a < _ b > _ c", "a\n\tb\nc"},
		{"a < _ b < _ c > _ d > _ e", "a\n\tb\n\t\tc\n\td\ne"},
		{"a < < < _ b > > _ c > d", "a\n\t\t\tb\n\tcd"},
		{"< a > _ b", "a\nb"},
		{"< a b < c > >", "abc"},
		{"a < > _ < > b", "a\nb"},
		// Nothing is written on a line.
		{"< _ >", "\n"},
		{"< _ _ >", "\n\n"},
		{"a < _ _ b >", "a\n\n\tb"},
		{"a < _ < _ _ > _ > b", "a\n\n\n\n\tb"},
		{"a < _ < _ > > _ b", "a\n\n\nb"},
		{"a < _ [ ] < > [ . ] >", "a\n"},
		{"a < _ [ . ] ! b >", "a\n\n\tb"},
		{"< ! ! ! > < < ! > >", "\n\n\n\n"},
		// A nest that ends or begins behind a break: what counts is the nest at the break.
		{"a < _ > b", "a\n\tb"},
		{"a < < _ > > b c", "a\n\t\tbc"},
		{"a < _ > b _ c", "a\n\tb\nc"},
		{"a _ < b > c", "a\nbc"},
		{"a < _ < b _ > c > d _ e", "a\n\tb\n\t\tcd\ne"},
		{"a < _ > < < b > > _ c", "a\n\tb\nc"},
		{"a < _ > [ ] [ . ] b", "a\n\tb"},
		// A blank is the first thing of a line.
		{"a < _ [ _ ] > b", "a\n\t b"},
		{"a < ! > [ _ b ]", "a\n\t b"},
		{"a < < ! > [ _ _ . ] > b", "a\n\t\t  b"},
		{"[ _ ]", " "},
		{"[ _ ] a", " a"},
		{"< [ _ ] a >", " a"},
	} {
		for _, width := range []int{20, 80, 65535} {
			want(t, c.signs, width, c.laid)
		}
	}
}

// P8.1, P8.2: groups that just fit, and such as are wider by one.
func TestGroups(t *testing.T) {
	for _, c := range []struct {
		signs        string
		width        int // the least for which it is as flat; for one less it is as broken
		flat, broken string
	}{
		{"[ a _ b ]", 3, "a b", "a\nb"},
		{"[ a . b ]", 2, "ab", "a\nb"},
		{"[ a < _ b > ]", 3, "a b", "a\n\tb"},
		{"[ aa _ bb _ cc ]", 8, "aa bb cc", "aa\nbb\ncc"},
		{"[ é _ € ]", 3, "é €", "é\n€"},
		{"[ a _ \"\\xbf\\xbf\" ]", 2, "a \xbf\xbf", "a\n\xbf\xbf"},
		{"[ a _ ]", 2, "a ", "a\n"},
		{"[ _ a ]", 2, " a", "\na"},
		{"x [ a _ b ]", 4, "xa b", "xa\nb"},
		{"< x [ a _ b ] >", 4, "xa b", "xa\n\tb"},
		{"x _ y [ a _ b ]", 4, "x\nya b", "x\nya\nb"},
		// The column is that of the nest ahead of a line's first thing.
		{"< _ [ a _ b ] >", 7, "\n\ta b", "\n\ta\n\tb"},
		{"< _ > [ a _ b ]", 7, "\n\ta b", "\n\ta\nb"},
		{"< < _ > > [ a _ b ]", 11, "\n\t\ta b", "\n\t\ta\nb"},
		{"< < < _ [ _ a ] > > >", 14, "\n\t\t\t a", "\n\n\t\t\ta"},
		{"< _ [ . a ] >", 5, "\n\ta", "\n\n\ta"},
		{"< _ x [ . a ] >", 6, "\n\txa", "\n\tx\n\ta"},
		{"< _ [ < > _ ] >", 5, "\n\t ", "\n\n"},
		// Texts behind, up to the next break, wherever that is, or the end.
		{"[ a _ b ] c", 4, "a bc", "a\nbc"},
		{"[ a _ b ] c d e", 6, "a bcde", "a\nbcde"},
		{"[ a _ b ] c _ dddddddd", 4, "a bc\ndddddddd", "a\nbc\ndddddddd"},
		{"[ a _ b ] c . dddddddd", 4, "a bc\ndddddddd", "a\nbc\ndddddddd"},
		{"[ a _ b ] c ! dddddddd", 4, "a bc\ndddddddd", "a\nbc\ndddddddd"},
		{"[ a _ b ] _ dddddddd", 3, "a b\ndddddddd", "a\nb\ndddddddd"},
		{"[ a _ b ] ! ! dddddddd", 3, "a b\n\ndddddddd", "a\nb\n\ndddddddd"},
		{"[ a _ b ] < c > d < _ eeeeeeee >", 5, "a bcd\n\teeeeeeee", "a\nbcd\n\teeeeeeee"},
		{"< [ a _ b ] c > d", 5, "a bcd", "a\n\tbcd"},
		{"< [ a _ b ] c > d ! eeeeeeee", 5, "a bcd\neeeeeeee", "a\n\tbcd\neeeeeeee"},
		{"[ ! [ a _ b ] c ] d", 5, "\na bcd", "\na\nbcd"},
		{"[ ! [ a _ b ] c ] d ! eeeeeeee", 5, "\na bcd\neeeeeeee", "\na\nbcd\neeeeeeee"},
		{"[ a _ b ] [ c ] d [ ] e", 6, "a bcde", "a\nbcde"},
		{"[ a _ b ] é \"\\xbf\"", 4, "a bé\xbf", "a\nbé\xbf"},
		{"[ a _ b ] \"\\x20\"", 4, "a b ", "a\nb "},
		{"[ a _ b ] \"\\n\" c", 5, "a b\nc", "a\nb\nc"},
	} {
		for _, width := range []int{c.width, c.width + 1, 65535} {
			want(t, c.signs, width, c.flat)
		}
		want(t, c.signs, c.width-1, c.broken)
	}
}

// P8.1: a break of another group is the next break, too, be that group flat in the end or not.
func TestGroupsBehind(t *testing.T) {
	for _, c := range []struct {
		signs string
		width int
		laid  string
	}{
		{"[ a _ b ] [ cc _ d ]", 4, "a\nbcc\nd"},
		{"[ a _ b ] [ cc _ d ]", 5, "a bcc\nd"},
		{"[ a _ b ] [ cc _ d ]", 6, "a bcc\nd"},
		{"[ a _ b ] [ cc _ d ]", 7, "a bcc d"},
		{"[ a _ b ] [ cc . d ]", 5, "a bcc\nd"},
		{"[ a _ b ] [ _ cc ]", 3, "a b\ncc"},
		{"[ a _ b ] [ _ cc ]", 2, "a\nb\ncc"},
		{"[ a _ b ] [ _ cc ]", 6, "a b cc"},
		{"[ a _ b ] [ . cc ]", 3, "a b\ncc"},
		{"[ a _ b ] [ [ . ] cc ]", 3, "a b\ncc"},
		{"[ a _ b ] c [ ! dd ]", 4, "a bc\ndd"},
		{"[ a _ b ] c [ d [ e ! ] ]", 5, "a\nbcde\n"},
		{"[ a _ b ] c [ d [ e ! ] ]", 6, "a bcde\n"},
		{"[ a _ b ] _ [ c _ d ] _ [ e _ f ]", 3, "a b\nc d\ne f"},
		{"[ a _ b ] _ [ cc _ d ] _ [ e _ f ]", 3, "a b\ncc\nd\ne f"},
	} {
		want(t, c.signs, c.width, c.laid)
	}
}

// P8.1: groups in one another; those in a flat one are flat with it, those in one that isn't are flat if they fit.
func TestGroupsWithin(t *testing.T) {
	for _, c := range []struct {
		signs string
		width int
		laid  string
	}{
		{"[ a _ [ b _ c ] ]", 5, "a b c"},
		{"[ a _ [ b _ c ] ]", 4, "a\nb c"},
		{"[ a _ [ b _ c ] ]", 3, "a\nb c"},
		{"[ a _ [ b _ c ] ]", 2, "a\nb\nc"},
		{"[ [ a _ b ] _ c ]", 5, "a b c"},
		{"[ [ a _ b ] _ c ]", 4, "a b\nc"},
		{"[ [ a _ b ] _ c ]", 2, "a\nb\nc"},
		{"[ [ a _ b ] c ]", 4, "a bc"},
		{"[ [ a _ b ] c ]", 3, "a\nbc"},
		{"[ a _ b ] [ c _ d ]", 6, "a bc d"},
		// What stands behind the inner one doesn't matter if the outer one is flat.
		{"[ [ a . ] b _ ] ccc", 6, "ab ccc"},
		{"[ [ a . ] b _ ] ccc", 5, "ab\nccc"},
		{"[ [ [ [ a _ b ] ] ] ]", 3, "a b"},
		{"[ [ [ [ a _ b ] ] ] ]", 2, "a\nb"},
		{"[ f( < . [ a, _ b, ] _ [ g( < . c, _ d > ) ] > ) ]", 17, "f(a, b, g(c, d))"},
		{"[ f( < . [ a, _ b, ] _ [ g( < . c, _ d > ) ] > ) ]", 15, "f(\n\ta, b,\n\tg(c, d))"},
		{"[ f( < . [ a, _ b, ] _ [ g( < . c, _ d > ) ] > ) ]", 12, "f(\n\ta, b,\n\tg(c, d))"},
		{"[ f( < . [ a, _ b, ] _ [ g( < . c, _ d > ) ] > ) ]", 11, "f(\n\ta, b,\n\tg(\n\t\tc,\n\t\td))"},
		{"[ f( < . [ a, _ b, ] _ [ g( < . c, _ d > ) ] > ) ]", 8, "f(\n\ta,\n\tb,\n\tg(\n\t\tc,\n\t\td))"},
		// Behind a flat group its breaks' group counts again.
		{"[ a [ b ] _ c ! ]", 80, "ab\nc\n"},
		{"[ ! [ a _ b ] _ [ c _ d ] _ ]", 80, "\na b\nc d\n"},
		{"[ a _ b ] _ c", 80, "a b\nc"},
		{"[ a _ [ ] _ b ] _ c", 80, "a  b\nc"},
		{"[ a _ [ . ] _ b ] _ c", 80, "a  b\nc"},
		// Nothing in a group or a nest.
		{"[ ]", 1, ""},
		{"< >", 1, ""},
		{"[ < [ ] > < > ]", 1, ""},
		{"[ ] _ [ ]", 1, "\n"},
		{"aaa [ ] bbb", 1, "aaabbb"},
		{"[ a < > _ [ ] b ]", 3, "a b"},
		{"[ a < > _ [ ] b ]", 2, "a\nb"},
		{"< [ ] _ [ ] a >", 1, "\n\ta"},
	} {
		want(t, c.signs, c.width, c.laid)
	}
}

// P8.1: a group with a hard in it, at any depth, is never flat; one that stands beside a hard may be.
func TestHardInGroups(t *testing.T) {
	for _, c := range []struct{ signs, laid string }{
		{"[ ! ]", "\n"},
		{"[ _ ! ]", "\n\n"},
		{"[ ! . ]", "\n\n"},
		{"[ a _ b ! ]", "a\nb\n"},
		{"[ a _ < ! > b ]", "a\n\n\tb"},
		{"[ a _ [ ! ] b ]", "a\n\nb"},
		{"[ a _ [ b _ c < d [ _ ! ] > ] ]", "a\nb\ncd\n\n"},
		{"[ a _ [ b _ c ] ! ]", "a\nb c\n"},
		{"[ ! [ b _ c ] _ a ]", "\nb c\na"},
		{"[ [ a _ b ] _ [ c _ ! ] _ [ d _ e ] ]", "a b\nc\n\n\nd e"},
		{"[ a _ b ] !", "a b\n"},
		{"! [ a _ b ]", "\na b"},
		{"! [ a _ b ] ! [ c . d ] !", "\na b\ncd\n"},
		{"[ < < [ < ! > ] > _ > ]", "\n\n"},
	} {
		want(t, c.signs, 65535, c.laid)
		want(t, c.signs, 80, c.laid)
	}
}
