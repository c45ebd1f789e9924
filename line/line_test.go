package line_test

import (
	"bytes"
	"math"
	"slices"
	"strconv"
	"strings"
	"testing"

	"scarf/line"
)

// some are bytes of every sort that the chapter names: none, with a newline at the end and without, newlines alone, bytes that are no text.
func some() []string {
	return []string{
		"", "\n", "\n\n", "\n\n\n", "a", "a\n", "\na", "\n\na", "a\n\nb", "a\nb\n", "a\n\n", "ab\ncd\n\nef",
		"package p\n\nvar x = 1\n", "package p\n\nvar x = 1",
		"\r\n\r", "a\r\nb\r", "\v\f\x85\n\u2028\u2029", "\x00\n\x00", "\xff\n\x80\xc3", "\x0b\x8a\n\xe2\x82", "\xc4\x8a\n",
	}
}

// small tells all rows of up to n of the three bytes given.
func small(n int) []string {
	l := []string{""}
	for from := 0; n > 0; n-- {
		to := len(l)
		for _, s := range l[from:to] {
			l = append(l, s+"a", s+"\n", s+"\r")
		}
		from = to
	}
	return l
}

// cut splits as the chapter says it, sign by sign from the back.
func cut(s string) []string {
	var l []string
	end := len(s)
	for i := len(s) - 1; i >= 0; i-- {
		if i == 0 || s[i-1] == 10 {
			l = append(l, s[i:end])
			end = i
		}
	}
	slices.Reverse(l)
	return l
}

func wantLines(t *testing.T, what string, got [][]byte, want []string) {
	t.Helper()
	same := func(l []byte, s string) bool { return string(l) == s }
	if !slices.EqualFunc(got, want, same) {
		t.Fatalf("%s: %q; want %q", what, got, want)
	}
}

func wantPlace(t *testing.T, starts []int, at, row, column int) {
	t.Helper()
	if r, c := line.Place(starts, at); r != row || c != column {
		t.Fatalf("Place(%d, %d): %d, %d; want %d, %d", starts, at, r, c, row, column)
	}
}

// P2.1: what the chapter names.
func TestSplit(t *testing.T) {
	for s, want := range map[string][]string{
		"":               nil,
		"a":              {"a"},
		"\n":             {"\n"},
		"a\n":            {"a\n"},
		"\na":            {"\n", "a"},
		"\n\n\n":         {"\n", "\n", "\n"},
		"a\n\nb":         {"a\n", "\n", "b"},
		"ab\ncd\n":       {"ab\n", "cd\n"},
		"a\r\nb\rc\x00":  {"a\r\n", "b\rc\x00"},
		"\xff\n\x8a\x0b": {"\xff\n", "\x8a\x0b"},
	} {
		wantLines(t, "Split", line.Split([]byte(s)), want)
	}
	wantLines(t, "Split of nil", line.Split(nil), nil)
}

// P2.1: all short rows of bytes, and each byte ahead of a newline, behind one and alone.
func TestSplitOfAll(t *testing.T) {
	l := append(small(7), some()...)
	for i := range 1 << 8 {
		c := string([]byte{byte(i)})
		l = append(l, c, c+"\n", "\n"+c, c+"\n"+c, "x"+c+"y"+c)
	}
	for _, s := range l {
		wantLines(t, "Split of "+strconv.Quote(s), line.Split([]byte(s)), cut(s))
	}
}

// P2.1: any number of parts, with bytes and without.
func TestJoin(t *testing.T) {
	for _, x := range []struct {
		want  string
		parts [][]byte
	}{
		{"", nil},
		{"", [][]byte{}},
		{"", [][]byte{nil}},
		{"", [][]byte{nil, {}, nil}},
		{"a", [][]byte{[]byte("a")}},
		{"ab", [][]byte{nil, []byte("a"), {}, []byte("b"), nil}},
		{"a\n\nb", [][]byte{[]byte("a\n"), []byte("\n"), []byte("b")}},
		{"\x00\xff\xc3\xa9", [][]byte{{0, 0xff, 0xc3}, {0xa9}}},
		{"baab", [][]byte{[]byte("ba"), []byte("ab")}},
	} {
		if got := line.Join(x.parts...); string(got) != x.want {
			t.Errorf("Join(%q): %q; want %q", x.parts, got, x.want)
		}
	}
	if got := line.Join(); len(got) != 0 {
		t.Errorf("Join of nothing: %q", got)
	}
	same := []byte("ab")
	if got := line.Join(same, same, same[1:], same[:1]); string(got) != "ababba" {
		t.Errorf("Join of one part again: %q", got)
	}
	var parts [][]byte
	for range 5000 {
		parts = append(parts, []byte("xyz"), nil)
	}
	if got := line.Join(parts...); string(got) != strings.Repeat("xyz", 5000) {
		t.Error("Join of many parts")
	}
}

// P2.2: what the chapter names.
func TestStarts(t *testing.T) {
	for s, want := range map[string][]int{
		"":         {0},
		"a":        {0},
		"\n":       {0, 1},
		"a\n":      {0, 2},
		"\n\n\n":   {0, 1, 2, 3},
		"a\n\nb":   {0, 2, 3},
		"ab\ncd\n": {0, 3, 6},
		"a\r\nb\r": {0, 3},
	} {
		if got := line.Starts([]byte(s)); !slices.Equal(got, want) {
			t.Errorf("Starts(%q): %d; want %d", s, got, want)
		}
	}
	if got := line.Starts(nil); !slices.Equal(got, []int{0}) {
		t.Errorf("Starts(nil): %d", got)
	}
}

// P2.2: just 0 and the places behind newlines.
func TestStartsOfAll(t *testing.T) {
	for _, s := range append(small(7), some()...) {
		want := []int{0}
		for i := range len(s) {
			if s[i] == 10 {
				want = append(want, i+1)
			}
		}
		if got := line.Starts([]byte(s)); !slices.Equal(got, want) {
			t.Fatalf("Starts(%q): %d; want %d", s, got, want)
		}
	}
}

// P2.2: ahead of the first start, at starts, between them, behind the last one.
func TestPlace(t *testing.T) {
	three := []int{0, 2, 3}
	wantPlace(t, three, -1, 0, 0)
	wantPlace(t, three, 0, 0, 0)
	wantPlace(t, three, 1, 0, 1)
	wantPlace(t, three, 2, 1, 0)
	wantPlace(t, three, 3, 2, 0)
	wantPlace(t, three, 4, 2, 1)
	wantPlace(t, three, 1000, 2, 997)
	wantPlace(t, []int{0}, 0, 0, 0)
	wantPlace(t, []int{0}, 7, 0, 7)
	wantPlace(t, []int{5, 8}, 4, 0, 0)
	wantPlace(t, []int{5, 8}, 5, 0, 0)
	wantPlace(t, []int{5, 8}, 7, 0, 2)
	wantPlace(t, []int{5, 8}, 8, 1, 0)
	wantPlace(t, []int{-9, -4, 3}, -10, 0, 0)
	wantPlace(t, []int{-9, -4, 3}, -5, 0, 4)
	wantPlace(t, []int{-9, -4, 3}, -4, 1, 0)
	wantPlace(t, []int{-9, -4, 3}, 2, 1, 6)
	wantPlace(t, []int{0, 4, 4, 4, 9}, 4, 3, 0)
	wantPlace(t, []int{0, 4, 4, 4, 9}, 8, 3, 4)
}

// P2.2: no starts at all, and numbers at the ends of what there is.
func TestPlaceOfNoStart(t *testing.T) {
	for _, at := range []int{math.MinInt, -1, 0, 1, math.MaxInt} {
		wantPlace(t, nil, at, 0, 0)
		wantPlace(t, []int{}, at, 0, 0)
	}
	wantPlace(t, []int{0, 1}, math.MinInt, 0, 0)
	wantPlace(t, []int{0, 1}, math.MaxInt, 1, math.MaxInt-1)
	wantPlace(t, []int{math.MaxInt}, math.MaxInt-1, 0, 0)
	wantPlace(t, []int{math.MaxInt}, math.MaxInt, 0, 0)
	wantPlace(t, []int{math.MinInt}, math.MinInt, 0, 0)
	wantPlace(t, []int{math.MinInt, 0}, -1, 0, math.MaxInt)
	wantPlace(t, []int{math.MinInt, 0, math.MaxInt}, math.MaxInt, 2, 0)
	if row, _ := line.Place([]int{math.MinInt}, math.MaxInt); row != 0 { // how far is more than an int holds
		t.Errorf("line %d of one", row)
	}
}

// P2.2: rising starts of every number from none to 70, asked at each place around them, against a look through all of them.
func TestPlaceOfAll(t *testing.T) {
	for n := range 70 {
		for gap := 1; gap < 4; gap++ {
			var starts []int
			for i := range n {
				starts = append(starts, 3+i*gap+i%gap)
			}
			for at := -1; at < 10+n*gap+gap; at++ {
				row, column := 0, 0
				for i, start := range starts {
					if start <= at {
						row, column = i, at-start
					}
				}
				wantPlace(t, starts, at, row, column)
			}
		}
	}
}

// P2.2: of starts that don't rise, a line whose start isn't above; 0, 0, if there is none.
func TestPlaceOfMixedStarts(t *testing.T) {
	const most = 5
	starts := make([]int, most)
	for mix := range most * most * most * most * most {
		for i, rest := 0, mix; i < most; i++ {
			starts[i] = rest % most
			rest /= most
		}
		for n := range most + 1 {
			for at := -1; at <= most; at++ {
				row, column := line.Place(starts[:n], at)
				isNone := n == 0 || slices.Min(starts[:n]) > at
				if isNone && (row != 0 || column != 0) {
					t.Fatalf("Place(%d, %d): %d, %d", starts[:n], at, row, column)
				}
				if !isNone && (row < 0 || row >= n || starts[row] > at || column != at-starts[row]) {
					t.Fatalf("Place(%d, %d): %d, %d", starts[:n], at, row, column)
				}
			}
		}
	}
}

// wantBack holds what follows of b: its lines joined are b, and each place's line and column lead back to it.
func wantBack(t *testing.T, b []byte) {
	t.Helper()
	lines, starts := line.Split(b), line.Starts(b)
	if !bytes.Equal(line.Join(lines...), b) {
		t.Fatalf("the lines of %.40q joined are other bytes", b)
	}
	row, column := 0, 0
	for at := range len(b) + 1 {
		r, c := line.Place(starts, at)
		if r != row || c != column || starts[r]+c != at {
			t.Fatalf("place %d of %.40q: %d, %d; want %d, %d", at, b, r, c, row, column)
		}
		if at < len(b) && lines[r][c] != b[at] {
			t.Fatalf("place %d of %.40q: %d, %d is another byte", at, b, r, c)
		}
		column++
		if at < len(b) && b[at] == 10 {
			row, column = row+1, 0
		}
	}
}

// P2.3: short bytes, all of them; and bytes with so many lines that a look through all starts for each place would not end in time.
func TestThereAndBack(t *testing.T) {
	for _, s := range append(small(7), some()...) {
		wantBack(t, []byte(s))
	}
	wantBack(t, bytes.Repeat([]byte("ab\n\n"), 1<<18))
	wantBack(t, bytes.Repeat([]byte("\n"), 1<<20))
	wantBack(t, bytes.Repeat([]byte("x"), 1<<20))
	wantBack(t, append(bytes.Repeat([]byte("x"), 1<<20), '\n'))
}

// P2.4: b isn't changed, nor the room behind its end, and that room isn't read as b.
func TestArgumentsStay(t *testing.T) {
	for _, s := range some() {
		whole := []byte(s + "\ntail\n")
		want := bytes.Clone(whole)
		for n := range whole {
			b := whole[:n]
			wantLines(t, "with room behind", line.Split(b), cut(string(want[:n])))
			if got := line.Join(b, b); string(got) != strings.Repeat(string(want[:n]), 2) {
				t.Fatalf("Join(%q twice): %q", want[:n], got)
			}
			if got := line.Join(b); !bytes.Equal(got, want[:n]) {
				t.Fatalf("Join(%q): %q", want[:n], got)
			}
			if got := line.Starts(b); len(got) != 1+strings.Count(string(want[:n]), "\n") {
				t.Fatalf("Starts(%q): %d", want[:n], got)
			}
			if !bytes.Equal(whole, want) {
				t.Fatalf("%q became %q", want, whole)
			}
		}
	}
	starts := []int{4, 0, 9, 2, 2, 7}
	for n := range starts {
		for at := -1; at < 11; at++ {
			line.Place(starts[:n], at)
		}
	}
	if want := []int{4, 0, 9, 2, 2, 7}; !slices.Equal(starts, want) {
		t.Fatalf("%d became %d", want, starts)
	}
}

// P2.4: the row of parts isn't changed, nor the room behind its end.
func TestPartsStay(t *testing.T) {
	parts := [][]byte{[]byte("a"), nil, []byte("b\n"), []byte("tail")}
	want := [][]byte{[]byte("a"), nil, []byte("b\n"), []byte("tail")}
	if got := line.Join(parts[:3]...); string(got) != "ab\n" {
		t.Fatalf("Join: %q", got)
	}
	if !slices.EqualFunc(parts, want, bytes.Equal) {
		t.Fatalf("%q became %q", want, parts)
	}
}

// fill overwrites all that a list holds, the room behind its end, too.
func fill[T any](l []T, x T) {
	l = l[:cap(l)]
	for i := range l {
		l[i] = x
	}
}

// P2.4: each line is memory of its own: not b's, not another line's, not another answer's.
func TestLinesAreNew(t *testing.T) {
	for _, s := range append(some(), strings.Repeat("ab\nc\n\n", 50)) {
		b, want := []byte(s), cut(s)
		first, second := line.Split(b), line.Split(b)
		fill(b, '#')
		wantLines(t, "b is overwritten", first, want)
		for i := range first {
			fill(first[i], '#')
			wantLines(t, "lines ahead are overwritten", first[i+1:], want[i+1:])
			wantLines(t, "another answer is overwritten", second, want)
		}
		third := line.Split([]byte(s))
		for i := range slices.Backward(third) {
			_ = append(third[i], "####"...)
			fill(third[i], '#')
			wantLines(t, "lines behind are overwritten", third[:i], want[:i])
		}
		fill(first, []byte("#"))
		wantLines(t, "another row is overwritten", second, want)
		b = []byte(s)
		for _, l := range line.Split(b) {
			fill(l, '#')
		}
		if string(b) != s {
			t.Fatalf("%q became %q", s, b)
		}
	}
}

// P2.4: what Join tells is new memory, of one part, too, and of one with empty parts beside it.
func TestJoinedIsNew(t *testing.T) {
	for _, parts := range [][][]byte{
		{[]byte("abc")},
		{nil, []byte("abc"), nil},
		{[]byte("abc"), {}},
		{[]byte("a"), []byte("bc")},
		{make([]byte, 0, 9), []byte("abc")},
		{append(make([]byte, 0, 9), 'a'), []byte("bc")},
	} {
		first, second := line.Join(parts...), line.Join(parts...)
		for _, part := range parts {
			fill(part, '#')
		}
		if string(first) != "abc" {
			t.Fatalf("what was joined became %q", first)
		}
		fill(first, '!')
		if string(second) != "abc" {
			t.Fatalf("another answer became %q", second)
		}
		for _, part := range parts {
			if bytes.IndexByte(part[:cap(part)], '!') >= 0 {
				t.Fatalf("a part became %q", part)
			}
		}
	}
}

// P2.4: starts are new memory with each answer, those of no bytes, too.
func TestStartsAreNew(t *testing.T) {
	for _, s := range some() {
		b := []byte(s)
		first := line.Starts(b)
		want := slices.Clone(first)
		second := line.Starts(b)
		fill(first, -7)
		fill(b, '\n')
		if !slices.Equal(second, want) {
			t.Fatalf("Starts(%q) became %d; want %d", s, second, want)
		}
		if third := line.Starts([]byte(s)); !slices.Equal(third, want) {
			t.Fatalf("Starts(%q) again: %d; want %d", s, third, want)
		}
	}
}
