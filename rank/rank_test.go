package rank_test

import (
	"cmp"
	"errors"
	"math"
	"slices"
	"strconv"
	"strings"
	"testing"

	"scarf/rank"
)

// rows tells all rows of up to n numbers below most.
func rows(n, most int) [][]int {
	l := [][]int{{}}
	for from := 0; n > 0; n-- {
		to := len(l)
		for _, row := range l[from:to] {
			for x := range most {
				l = append(l, append(slices.Clone(row), x))
			}
		}
		from = to
	}
	return l
}

// mixed tells n numbers below most that jump up and down, many of them more than once.
func mixed(n, most int) []int {
	l := make([]int, n)
	x := uint32(12345)
	for i := range l {
		x = x*1664525 + 1013904223
		l[i] = int(x>>8) % most
	}
	return l
}

// ordered tells l's places as the document says it: a place is behind those of lesser things, and those ahead of it whose things aren't greater.
func ordered[T any](l []T, less func(a, b T) bool) []int {
	want := make([]int, len(l))
	for i, x := range l {
		behind := 0
		for j, y := range l {
			if less(y, x) || j < i && !less(x, y) {
				behind++
			}
		}
		want[behind] = i
	}
	return want
}

func wantRow(t *testing.T, what string, got, want []int) {
	t.Helper()
	if !slices.Equal(got, want) {
		t.Fatalf("%s: %d; want %d", what, got, want)
	}
}

// wantAllPlaces holds that got is some order of the places below n.
func wantAllPlaces(t *testing.T, what string, got []int, n int) {
	t.Helper()
	seen := slices.Sorted(slices.Values(got))
	for i := range n {
		if len(seen) != n || seen[i] != i {
			t.Fatalf("%s: %d is no order of %d places", what, got, n)
		}
	}
}

// wantTable holds all that a Table tells against the things that were added.
func wantTable[T comparable](t *testing.T, what string, table *rank.Table[T], want ...T) {
	t.Helper()
	if n := table.Len(); n != len(want) {
		t.Fatalf("%s: Len is %d; want %d", what, n, len(want))
	}
	for i, x := range want {
		if got, ok := table.At(i); got != x || !ok {
			t.Fatalf("%s: At(%d) is %v, %v; want %v", what, i, got, ok, x)
		}
	}
	var none T
	for _, i := range []int{-1, len(want), len(want) + 1, math.MinInt, math.MaxInt} {
		if got, ok := table.At(i); got != none || ok {
			t.Fatalf("%s: At(%d) is %v, %v; want nothing", what, i, got, ok)
		}
	}
	next := 0
	for i, x := range table.All() {
		if i != next || next == len(want) || x != want[next] {
			t.Fatalf("%s: All tells %d, %v as number %d; want %v", what, i, x, next, want)
		}
		next++
	}
	if next != len(want) {
		t.Fatalf("%s: All tells %d things; want %d", what, next, len(want))
	}
}

// P3.1: no things at all, one thing, two, and the chapter's own.
func TestIntsNamed(t *testing.T) {
	wantRow(t, "nil", rank.Ints(nil), nil)
	wantRow(t, "none", rank.Ints([]int{}), nil)
	wantRow(t, "one", rank.Ints([]int{7}), []int{0})
	wantRow(t, "two", rank.Ints([]int{7, 8}), []int{0, 1})
	wantRow(t, "two that fall", rank.Ints([]int{8, 7}), []int{1, 0})
	wantRow(t, "two that are one", rank.Ints([]int{7, 7}), []int{0, 1})
	wantRow(t, "the chapter's", rank.Ints([]int{3, 1, 2, 1}), []int{1, 3, 2, 0})
}

// P3.1: below 0, too, and numbers whose difference is more than an int holds.
func TestIntsFar(t *testing.T) {
	l := []int{math.MaxInt, 0, math.MinInt, -1, 1, math.MaxInt - 1, math.MinInt + 1, math.MinInt, math.MaxInt}
	wantRow(t, "far", rank.Ints(l), []int{2, 7, 6, 3, 1, 4, 5, 0, 8})
}

// P3.1: all short rows, and long ones of every length around those of which halves are equal.
func TestIntsAll(t *testing.T) {
	l := rows(7, 3)
	for n := range 140 {
		l = append(l, mixed(n, 5), mixed(n, 1000))
	}
	for _, row := range l {
		wantRow(t, "Ints of some", rank.Ints(row), ordered(row, cmp.Less[int]))
	}
}

// P3.1: by bytes: no letters' order, no signs' order, no length first, and bytes that are no text.
func TestTexts(t *testing.T) {
	wantRow(t, "nil", rank.Texts(nil), nil)
	wantRow(t, "one", rank.Texts([]string{""}), []int{0})
	wantRow(t, "the chapter's", rank.Texts([]string{"b", "", "ab", "a"}), []int{1, 3, 2, 0})
	rising := []string{
		"", "\x00", "\x00\x00", "\x00a", "\x01", "10", "9", "A", "Z", "_", "a", "a\x00", "a\x00b", "aB", "aa", "ab", "aé", "a\xff",
		"b", "z", "zz", "\x7f", "\x80", "é", "\xef\xbf\xbd", "\U0001f600", "\xff", "\xff\x00", "\xff\xff",
	}
	for shift := range rising {
		turned := append(slices.Clone(rising[shift:]), rising[:shift]...)
		for i, place := range rank.Texts(turned) {
			if turned[place] != rising[i] {
				t.Fatalf("%q as number %d; want %q", turned[place], i, rising[i])
			}
		}
	}
	long := strings.Repeat("x", 10000)
	wantRow(t, "long", rank.Texts([]string{long + "b", long + "a", long, long[1:], long + "a"}), []int{3, 2, 1, 4, 0})
}

// P3.1: things of which neither is less stay as they stood.
func TestByStays(t *testing.T) {
	lengths := func(a, b string) bool { return len(a) < len(b) }
	words := []string{"ccc", "b", "", "aaa", "a", "bb", "c", "", "aa", "bbb"}
	wantRow(t, "by length", rank.By(words, lengths), []int{2, 7, 1, 4, 6, 5, 8, 0, 3, 9})
	tens := func(a, b int) bool { return a/10 < b/10 }
	greater := func(a, b int) bool { return a > b }
	never := func(a, b int) bool { return false }
	for n := range 140 {
		row := mixed(n, 60)
		wantRow(t, "by tens", rank.By(row, tens), ordered(row, tens))
		wantRow(t, "falling", rank.By(row, greater), ordered(row, greater))
		wantRow(t, "as it stood", rank.By(row, never), ordered(row, never))
	}
	for _, row := range rows(6, 4) {
		halves := func(a, b int) bool { return a/2 < b/2 }
		wantRow(t, "by halves", rank.By(row, halves), ordered(row, halves))
	}
}

// P3.1: things of any type, those that can't be compared, and those without memory, too.
func TestByOfTypes(t *testing.T) {
	longer := func(a, b []int) bool { return len(a) > len(b) }
	wantRow(t, "slices", rank.By([][]int{nil, {1}, {2, 3}, {}, {4}}, longer), []int{2, 1, 4, 0, 3})
	type pair struct {
		name string
		call func() int
	}
	one := func() int { return 1 }
	two := func() int { return 2 }
	byCall := func(a, b pair) bool { return a.call() < b.call() }
	wantRow(t, "structs", rank.By([]pair{{"a", two}, {"b", one}, {"c", two}, {"d", one}}, byCall), []int{1, 3, 0, 2})
	wantRow(t, "nothings", rank.By(make([]struct{}, 5), func(a, b struct{}) bool { return false }), []int{0, 1, 2, 3, 4})
	wantRow(t, "anys", rank.By([]any{"b", 1, nil}, func(a, b any) bool { return a == nil && b != nil }), []int{2, 0, 1})
}

// P3.1 and P1: what tells no order leads to some order of all places, and the call ends.
func TestByOfNoOrder(t *testing.T) {
	asked := 0
	wrong := map[string]func(a, b int) bool{
		"always":    func(a, b int) bool { return true },
		"not above": func(a, b int) bool { return a <= b },
		"circle":    func(a, b int) bool { return (b-a+30)%3 == 1 },
		"in turn":   func(a, b int) bool { asked++; return asked%2 == 0 },
		"sometimes": func(a, b int) bool { asked++; return asked%5 < 2 },
	}
	for what, less := range wrong {
		for n := range 70 {
			wantAllPlaces(t, what, rank.By(mixed(n, 10), less), n)
		}
	}
}

// P3.1 and P1: a less that isn't there, or panics at once or on the way: no panic comes out, and all places are told.
func TestByOfPanic(t *testing.T) {
	for n := range 20 {
		wantAllPlaces(t, "nil", rank.By(mixed(n, 10), nil), n)
		for last := range 60 {
			for what, sign := range map[string]any{"text": "no", "error": errors.New("no"), "nil": nil} {
				asked := 0
				less := func(a, b int) bool {
					if asked++; asked > last {
						panic(sign)
					}
					return a < b
				}
				wantAllPlaces(t, "panic of "+what, rank.By(mixed(n, 10), less), n)
			}
		}
	}
}

// P3.1: as many questions as merging needs; one that holds each thing against each other one wouldn't end in time.
func TestByAsksLittle(t *testing.T) {
	const size = 18
	falling := make([]int, 1<<size)
	for i := range falling {
		falling[i] = -i
	}
	for what, l := range map[string][]int{"mixed": mixed(1<<size, 1<<20), "falling": falling, "one and the same": make([]int, 1<<size)} {
		asked := 0
		order := rank.By(l, func(a, b int) bool {
			asked++
			return a < b
		})
		if asked > size<<size {
			t.Errorf("%s: %d questions of %d things", what, asked, len(l))
		}
		if len(order) != len(l) {
			t.Fatalf("%s: %d places of %d", what, len(order), len(l))
		}
		for i := 1; i < len(order); i++ {
			a, b := order[i-1], order[i]
			if l[a] > l[b] || l[a] == l[b] && a >= b {
				t.Fatalf("%s: %d ahead of %d", what, a, b)
			}
		}
	}
}

// P3.2: below all, at one, at the first of several, between two, above all; no numbers at all, and those at the ends of what there is.
func TestPlace(t *testing.T) {
	for _, x := range []struct {
		l       []int
		n, want int
	}{
		{nil, 0, 0},
		{[]int{}, math.MinInt, 0},
		{nil, math.MaxInt, 0},
		{[]int{4}, 3, 0},
		{[]int{4}, 4, 0},
		{[]int{4}, 5, 1},
		{[]int{1, 3, 3, 5}, 0, 0},
		{[]int{1, 3, 3, 5}, 1, 0},
		{[]int{1, 3, 3, 5}, 2, 1},
		{[]int{1, 3, 3, 5}, 3, 1},
		{[]int{1, 3, 3, 5}, 4, 3},
		{[]int{1, 3, 3, 5}, 5, 3},
		{[]int{1, 3, 3, 5}, 6, 4},
		{[]int{7, 7, 7, 7, 7}, 7, 0},
		{[]int{7, 7, 7, 7, 7}, 8, 5},
		{[]int{math.MinInt, -1, 0, math.MaxInt}, math.MinInt, 0},
		{[]int{math.MinInt, -1, 0, math.MaxInt}, math.MinInt + 1, 1},
		{[]int{math.MinInt, -1, 0, math.MaxInt}, math.MaxInt, 3},
		{[]int{math.MinInt, -1, 0}, math.MaxInt, 3},
		{[]int{math.MaxInt}, math.MinInt, 0},
	} {
		if got := rank.Place(x.l, x.n); got != x.want {
			t.Errorf("Place(%d, %d): %d; want %d", x.l, x.n, got, x.want)
		}
	}
}

// P3.2: all short rows and longer ones, against a look from the front; of those that fall anywhere any place, or the length.
func TestPlaceOfAll(t *testing.T) {
	l := rows(6, 4)
	for n := range 70 {
		l = append(l, mixed(n, 4), slices.Sorted(slices.Values(mixed(n, 4))), slices.Sorted(slices.Values(mixed(n, 40))))
	}
	for _, row := range l {
		for n := -1; n <= 41; n++ {
			got := rank.Place(row, n)
			if got < 0 || got > len(row) {
				t.Fatalf("Place(%d, %d): %d", row, n, got)
			}
			want := slices.IndexFunc(row, func(x int) bool { return x >= n })
			if want < 0 {
				want = len(row)
			}
			if slices.IsSorted(row) && got != want {
				t.Fatalf("Place(%d, %d): %d; want %d", row, n, got, want)
			}
		}
	}
}

// P3.2: so often, in so many numbers, that a look through all of them would not end in time.
func TestPlaceOfMany(t *testing.T) {
	l := make([]int, 1<<20)
	for i := range l {
		l[i] = 2 * i
	}
	for i := range l {
		if even, odd := rank.Place(l, 2*i), rank.Place(l, 2*i+1); even != i || odd != i+1 {
			t.Fatalf("%d and what is above it: %d, %d", 2*i, even, odd)
		}
	}
}

// P3.3: a zero value, of things of some types.
func TestTableIsEmptyAtFirst(t *testing.T) {
	var numbers rank.Table[int]
	wantTable(t, "numbers", &numbers)
	wantTable(t, "texts", new(rank.Table[string]))
	wantTable(t, "a literal", &rank.Table[[2]bool]{})
	var tables [2]rank.Table[int]
	tables[0].Add(4)
	wantTable(t, "the first of two", &tables[0], 4)
	wantTable(t, "the second of two", &tables[1])
}

// P3.3: what is added has the next place, and stays; things that are alike, and zero values, are things, too.
func TestTableGrows(t *testing.T) {
	var table rank.Table[string]
	var want []string
	for i, n := range mixed(200, 12) {
		s := strings.Repeat("x", n)
		if place := table.Add(s); place != i {
			t.Fatalf("place %d of number %d", place, i)
		}
		want = append(want, s)
		wantTable(t, "it grows", &table, want...)
	}
	var nothings rank.Table[struct{}]
	for i := range 5 {
		if place := nothings.Add(struct{}{}); place != i || nothings.Len() != i+1 {
			t.Fatalf("nothing number %d: %d, %d", i, place, nothings.Len())
		}
	}
}

// P3.3: things of many sorts, one of which holds Tables.
func TestTableOfTypes(t *testing.T) {
	var lists rank.Table[[]int]
	lists.Add(nil)
	lists.Add([]int{1, 2})
	if l, ok := lists.At(0); l != nil || !ok {
		t.Errorf("a list without elements: %d, %v", l, ok)
	}
	if l, ok := lists.At(1); !slices.Equal(l, []int{1, 2}) || !ok {
		t.Errorf("a list: %d, %v", l, ok)
	}
	if l, ok := lists.At(2); l != nil || ok {
		t.Errorf("no list: %d, %v", l, ok)
	}
	var calls rank.Table[func() int]
	for i := range 3 {
		calls.Add(func() int { return i })
	}
	for i, call := range calls.All() {
		if call() != i {
			t.Errorf("call %d answers %d", i, call())
		}
	}
	var tables rank.Table[*rank.Table[int]]
	tables.Add(nil)
	tables.Add(&rank.Table[int]{})
	inner, _ := tables.At(1)
	inner.Add(9)
	again, _ := tables.At(1)
	wantTable(t, "a Table in a Table", again, 9)
}

// P3.3: a million things: one that copies them all for each that is added would not end in time.
func TestTableOfMany(t *testing.T) {
	var table rank.Table[int]
	for i := range 1 << 20 {
		if place := table.Add(-i); place != i {
			t.Fatalf("place %d of number %d", place, i)
		}
	}
	next := 0
	for i, x := range table.All() {
		if y, ok := table.At(i); i != next || x != -i || y != -i || !ok {
			t.Fatalf("%d: %d, %d", i, x, y)
		}
		next++
	}
	if next != 1<<20 || table.Len() != 1<<20 {
		t.Fatalf("%d of %d", next, table.Len())
	}
}

// P3.3: a range ends at any thing, and another one begins at the front.
func TestRangeEnds(t *testing.T) {
	var table rank.Table[int]
	for i := range 20 {
		table.Add(i * i)
	}
	all := table.All()
	for last := range 20 {
		count := 0
		for i, x := range all {
			if i != count || x != i*i {
				t.Fatalf("%d, %d as number %d", i, x, count)
			}
			count++
			if i == last {
				break
			}
		}
		if count != last+1 {
			t.Fatalf("%d things up to place %d", count, last)
		}
		asked := 0
		all(func(i, x int) bool { asked++; return i < last })
		if asked != last+1 {
			t.Fatalf("%d things asked up to place %d", asked, last)
		}
	}
	for i := range all {
		for j, x := range all {
			if x != j*j {
				t.Fatalf("within %d: %d, %d", i, j, x)
			}
		}
	}
	wantTable(t, "what was ranged over", &table, 0, 1, 4, 9, 16, 25, 36, 49, 64, 81, 100, 121, 144, 169, 196, 225, 256, 289, 324, 361)
}

// P3.3 and P1: a range ends, however many things are added on the way, and tells those that were there.
func TestRangeEndsThoughTableGrows(t *testing.T) {
	var table rank.Table[int]
	table.Add(1)
	table.Add(2)
	table.Add(3)
	all := table.All()
	for range 3 {
		count := 0
		for i, x := range all {
			if x != i+1 {
				t.Fatalf("%d, %d", i, x)
			}
			table.Add(7)
			count++
		}
		if count != 3 {
			t.Fatalf("%d things of three", count)
		}
	}
	wantTable(t, "what has grown", &table, 1, 2, 3, 7, 7, 7, 7, 7, 7, 7, 7, 7)
}

// P3.3: a nil Table is empty, and stays so.
func TestTableNil(t *testing.T) {
	var table *rank.Table[string]
	wantTable(t, "nil", table)
	for range 3 {
		if place := table.Add("x"); place != -1 {
			t.Fatalf("place %d in no Table", place)
		}
	}
	wantTable(t, "nil again", table)
	for range table.All() {
		t.Fatal("a thing of no Table")
	}
}

// P3.3: what was added stays in a Table and in its copies, whichever of them grows, and however often they are copied there and back.
func TestCopiesKeepTheirOwn(t *testing.T) {
	for n := range 40 {
		var first rank.Table[int]
		var common []int
		for i := range n {
			first.Add(i)
			common = append(common, i)
		}
		second := first
		first.Add(100)
		second.Add(200)
		third := second
		second.Add(201)
		first.Add(101)
		third.Add(300)
		with := func(more ...int) []int { return append(slices.Clone(common), more...) }
		wantTable(t, "the first", &first, with(100, 101)...)
		wantTable(t, "the second", &second, with(200, 201)...)
		wantTable(t, "the third", &third, with(200, 300)...)
		before := first
		first.Add(102)
		after := first
		first = before
		first.Add(103)
		wantTable(t, "the first again", &first, with(100, 101, 103)...)
		wantTable(t, "the one ahead", &before, with(100, 101)...)
		wantTable(t, "the one behind", &after, with(100, 101, 102)...)
	}
}

// P3.4: lists aren't changed, nor the room behind their ends, and that room isn't read as theirs.
func TestArgumentsStay(t *testing.T) {
	numbers, texts := mixed(40, 9), make([]string, 40)
	for i, n := range numbers {
		texts[i] = strconv.Itoa(n)
	}
	wantNumbers, wantTexts := slices.Clone(numbers), slices.Clone(texts)
	falling := func(a, b int) bool { return a > b }
	for n := range numbers {
		wantRow(t, "Ints", rank.Ints(numbers[:n]), ordered(wantNumbers[:n], cmp.Less[int]))
		wantRow(t, "Texts", rank.Texts(texts[:n]), ordered(wantTexts[:n], cmp.Less[string]))
		wantRow(t, "By", rank.By(numbers[:n], falling), ordered(wantNumbers[:n], falling))
		rank.By(numbers[:n], nil)
		rank.Place(numbers[:n], 4)
		if !slices.Equal(numbers, wantNumbers) || !slices.Equal(texts, wantTexts) {
			t.Fatalf("they became %d, %q", numbers, texts)
		}
	}
}

// fill overwrites all that a list holds, the room behind its end, too.
func fill(l []int, x int) {
	l = l[:cap(l)]
	for i := range l {
		l[i] = x
	}
}

// P3.4: orders are new memory with each answer, and not the list's.
func TestOrdersAreNew(t *testing.T) {
	for n := range 40 {
		l := mixed(n, 9)
		want := ordered(l, cmp.Less[int])
		for what, tell := range map[string]func() []int{
			"Ints": func() []int { return rank.Ints(l) },
			"By":   func() []int { return rank.By(l, cmp.Less[int]) },
			"Texts": func() []int {
				texts := make([]string, n)
				for i, x := range l {
					texts[i] = strconv.Itoa(x)
				}
				return rank.Texts(texts)
			},
		} {
			first, second := tell(), tell()
			fill(first, -7)
			wantRow(t, what+", another one overwritten", second, want)
			wantRow(t, what+" again", tell(), want)
		}
		first := rank.Ints(l)
		fill(l, -7)
		wantRow(t, "the list overwritten", first, want)
		third := rank.By(l, nil)
		fill(third, -9)
		wantAllPlaces(t, "of no order", rank.By(l, nil), n)
		if n > 0 && l[0] != -7 {
			t.Fatalf("the list became %d", l)
		}
	}
}

// P3.4: what a Table told isn't changed by what is added behind.
func TestToldStays(t *testing.T) {
	var table rank.Table[int]
	var told []func(func(int, int) bool)
	for n := range 40 {
		told = append(told, table.All())
		table.Add(n)
	}
	for n, all := range told {
		count := 0
		for i, x := range all {
			if x != i {
				t.Fatalf("%d, %d", i, x)
			}
			count++
		}
		if count != n {
			t.Fatalf("%d things of %d", count, n)
		}
	}
}
