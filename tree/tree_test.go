package tree_test

import (
	"math"
	"runtime/debug"
	"slices"
	"strconv"
	"strings"
	"testing"

	"scarf/api"
	"scarf/tree"
)

// written tells a tree as a text that no other tree has.
func written(n api.Node) string {
	var b strings.Builder
	var write func(n api.Node)
	write = func(n api.Node) {
		b.WriteString(strconv.Itoa(n.Kind) + strconv.Quote(n.Text) + strconv.Quote(n.Trail) + "(")
		for _, kid := range n.Kids {
			write(kid)
		}
		b.WriteString(")")
	}
	write(n)
	return b.String()
}

// mutants are trees that differ from whole in one node each: in its Kind, its Text, its Trail, or how many Kids it has, alone.
func mutants() []api.Node {
	var l []api.Node
	for place := range slices.Collect(places(whole())) {
		l = append(l,
			changed(whole(), place, func(n *api.Node) { n.Kind += 100 }),
			changed(whole(), place, func(n *api.Node) { n.Kind = -n.Kind }),
			changed(whole(), place, func(n *api.Node) { n.Text += "\x00" }),
			changed(whole(), place, func(n *api.Node) { n.Trail += "//" }),
			changed(whole(), place, func(n *api.Node) { n.Kids = append(n.Kids, api.Node{}) }),
			changed(whole(), place, func(n *api.Node) { n.Kids = append([]api.Node{{Kind: -1}}, n.Kids...) }),
			changed(whole(), place, func(n *api.Node) { n.Text, n.Trail = n.Text+"x", n.Trail+"x" }),
		)
		if kids := slices.Collect(places(whole()))[place].node.Kids; len(kids) > 0 {
			l = append(l,
				changed(whole(), place, func(n *api.Node) { n.Kids = n.Kids[:len(n.Kids)-1] }),
				changed(whole(), place, func(n *api.Node) { n.Kids = append(n.Kids, n.Kids[len(n.Kids)-1]) }))
		}
	}
	return l
}

// P5.2: trees are the same just if all of their nodes are; what differs in one node alone isn't.
func TestSame(t *testing.T) {
	l := append(mutants(), whole(), api.Node{}, name("x"), call(name("x")), call(name("x"), name("x")), call(call(name("x"))))
	var texts []string
	for _, n := range l {
		texts = append(texts, written(n))
	}
	for i, a := range l {
		for j, b := range l {
			if got := tree.Same(a, b); got != (texts[i] == texts[j]) {
				t.Fatalf("Same of %s and %s: %v", texts[i], texts[j], got)
			}
		}
	}
}

// P5.2: Kids in another order, or one level down, aren't the same; a list without elements may be nil or empty.
func TestSameOfKids(t *testing.T) {
	x, y := name("x"), name("y")
	for _, c := range []struct {
		a, b api.Node
		same bool
	}{
		{call(x, y), call(y, x), false},
		{call(x, y), call(x, x), false},
		{call(x, x, y), call(x, y, x), false},
		{call(x, call(y)), call(call(x), y), false},
		{call(x, call(), y), call(x, call(y)), false},
		{dot(dot(x)), dot(dot(y)), false},
		{dot(dot(x)), dot(dot(dot(x))), false},
		{call(x, call(x, call(x, y))), call(x, call(x, call(x, x))), false},
		{call(x, call(x, call(x, y))), call(x, call(x, call(x, y))), true},
		{api.Node{Kids: nil}, api.Node{Kids: []api.Node{}}, true},
		{call(api.Node{Kids: nil}, x), call(api.Node{Kids: []api.Node{}}, x), true},
		{api.Node{Kids: nil}, api.Node{Kids: make([]api.Node, 0, 5)}, true},
		{api.Node{Kids: nil}, api.Node{Kids: make([]api.Node, 1)}, false},
		{api.Node{Text: "ab", Trail: "c"}, api.Node{Text: "a", Trail: "bc"}, false},
		{api.Node{Text: "a"}, api.Node{Trail: "a"}, false},
		{api.Node{Text: "\xff"}, api.Node{Text: "\xfe"}, false},
		{api.Node{Text: "e\u0301"}, api.Node{Text: "\u00e9"}, false},
		{api.Node{Kind: 1}, api.Node{Kind: 1 + 1<<32}, false},
	} {
		if tree.Same(c.a, c.b) != c.same || tree.Same(c.b, c.a) != c.same {
			t.Errorf("Same of %s and %s isn't %v", written(c.a), written(c.b), c.same)
		}
	}
}

// P5.2: how many nodes, those that are none of a program's, too.
func TestSize(t *testing.T) {
	x := name("x")
	for _, c := range []struct {
		n    api.Node
		want int
	}{
		{api.Node{}, 1},
		{x, 1},
		{dot(x), 2},
		{dot(dot(dot(x))), 4},
		{call(x, x, x), 4},
		{call(x, call(x, x), call()), 6},
		{call(call(call(x, x), x), x), 7},
		{file(pack(), constant(binary("+", x, number()))), 6},
		{api.Node{Kids: make([]api.Node, 1000)}, 1001},
		{call(call(make([]api.Node, 10)...), call(make([]api.Node, 20)...)), 33},
	} {
		if got := tree.Size(c.n); got != c.want {
			t.Errorf("Size of %s: %d; want %d", written(c.n), got, c.want)
		}
	}
	for _, n := range append(mutants(), whole()) {
		if got, want := tree.Size(n), strings.Count(written(n), "("); got != want {
			t.Errorf("Size of %s: %d; want %d", written(n), got, want)
		}
	}
}

// P5.2 and P5.4: a copy is the same tree, and of nothing else.
func TestCopy(t *testing.T) {
	for _, n := range append(mutants(), whole(), api.Node{}, api.Node{Kids: []api.Node{}}, call(api.Node{Kids: []api.Node{}})) {
		c := tree.Copy(n)
		if written(c) != written(n) || !tree.Same(c, n) || !tree.Same(n, c) {
			t.Fatalf("Copy of %s: %s", written(n), written(c))
		}
		if tree.Right(c) != tree.Right(n) || tree.Size(c) != tree.Size(n) {
			t.Fatalf("the copy of %s is told otherwise", written(n))
		}
		for place := range slices.Collect(places(n)) {
			other := changed(n, place, func(n *api.Node) { n.Text += "x" })
			if tree.Same(c, other) || tree.Same(tree.Copy(other), n) {
				t.Fatalf("%s is the same as a copy of another one", written(other))
			}
		}
	}
}

// scribble overwrites all nodes of a tree, and the room behind all of its lists' ends.
func scribble(n api.Node) {
	kids := n.Kids[:cap(n.Kids)]
	for i := range kids {
		scribble(kids[i])
		kids[i] = api.Node{Kind: 99, Text: "?", Trail: "?", Kids: []api.Node{{}}}
	}
}

// roomy is a tree of its own, with room behind each list's end.
func roomy(n api.Node) api.Node {
	var kids []api.Node
	for _, kid := range n.Kids {
		kids = append(kids, roomy(kid))
	}
	kids = append(kids, api.Node{Kind: 77, Text: "behind"}, api.Node{Kind: 78, Kids: []api.Node{{Kind: 79}}})
	n.Kids = kids[:len(n.Kids)]
	return n
}

// writtenRoom tells a tree with what stands behind its lists' ends.
func writtenRoom(n api.Node) string {
	s := written(api.Node{Kind: n.Kind, Text: n.Text, Trail: n.Trail}) + strconv.Itoa(len(n.Kids)) + "["
	for _, kid := range n.Kids[:cap(n.Kids)] {
		s += writtenRoom(kid)
	}
	return s + "]"
}

// P5.4: a copy is new memory: neither of both shows what is done to the other one, nor does a second copy.
func TestCopyIsNewMemory(t *testing.T) {
	want := written(whole())
	n := roomy(whole())
	c, second := tree.Copy(n), tree.Copy(n)
	scribble(c)
	if written(n) != want || written(second) != want {
		t.Error("what is done to a copy shows elsewhere")
	}
	if want := writtenRoom(roomy(whole())); writtenRoom(n) != want {
		t.Error("what is done to a copy shows behind a list's end")
	}
	c = tree.Copy(n)
	scribble(n)
	if written(c) != want || written(second) != want {
		t.Error("what is done to a tree shows in its copy")
	}
	c = tree.Copy(second)
	c.Kids = append(c.Kids, pack())
	for i := range c.Kids {
		c.Kids[i].Kids = append(c.Kids[i].Kids, pack())
	}
	if written(second) != want {
		t.Error("what is put behind a copy's Kids shows elsewhere")
	}
	twice := call(second, second)
	c = tree.Copy(twice)
	scribble(c.Kids[0])
	if written(c.Kids[1]) != want {
		t.Error("two lists of a copy are one")
	}
}

// P5.4: arguments aren't changed, nor the room behind their lists' ends, which isn't theirs.
func TestArgumentsStay(t *testing.T) {
	for _, n := range []api.Node{whole(), api.Node{}, call(), lifted(unary("-", unary("-", name("x"))), 20)} {
		given, want := roomy(n), writtenRoom(roomy(n))
		if tree.Right(given) != tree.Right(n) || !tree.Same(given, n) || tree.Size(given) != tree.Size(n) || written(tree.Copy(given)) != written(n) {
			t.Errorf("what is behind the ends of %s is told, too", written(n))
		}
		if tree.Same(given, changed(n, 0, func(n *api.Node) { n.Text = "?" })) {
			t.Error("a tree with another Text is the same")
		}
		for i := range 5 {
			tree.Paren(given, i)
		}
		count := 0
		for range tree.All(given) {
			count++
		}
		if count != tree.Size(n) || writtenRoom(given) != want {
			t.Errorf("%s became %s", want, writtenRoom(given))
		}
	}
}

// P5.3: every operator of a KBinary, and other texts.
func TestLevel(t *testing.T) {
	for level, ops := range []string{
		"! = := += -= *= /= %= ++ -- ( ) [ ] { } , . ; // x if 1 \"\" === <> ~ ? : &&& ||| ** => &= |= <<= &^=",
		"||", "&&", "== != < <= > >=", "+ - | ^", "* / % << >> & &^",
	} {
		for _, op := range strings.Fields(ops) {
			if got := tree.Level(op); got != level {
				t.Errorf("Level(%q): %d; want %d", op, got, level)
			}
			for _, other := range []string{" " + op, op + " ", op + "\n", op + "\x00", op + "x", "x" + op, op + "\xff"} {
				if got := tree.Level(other); got != 0 {
					t.Errorf("Level(%q): %d", other, got)
				}
			}
		}
	}
	for _, op := range []string{"", " ", "\x00", "\xff", "＋", strings.Repeat("+", 1<<20)} {
		if got := tree.Level(op); got != 0 {
			t.Errorf("Level(%.20q): %d", op, got)
		}
	}
}

// P5.3: any two operators, one within the other.
func TestParenOfOperators(t *testing.T) {
	x := name("x")
	levels := strings.Fields("|| && == + *")
	for level, ops := range []string{"||", "&&", "== != < <= > >=", "+ - | ^", "* / % << >> & &^"} {
		for _, op := range strings.Fields(ops) {
			for other, inner := range levels {
				first := binary(op, binary(inner, x, x), x)
				if got, want := tree.Paren(first, 0), other < level; got != want || tree.Paren(first, 1) {
					t.Errorf("the first Kid %s of %s: %v", inner, op, got)
				}
				second := binary(op, x, binary(inner, x, x))
				if got, want := tree.Paren(second, 1), other <= level; got != want || tree.Paren(second, 0) {
					t.Errorf("the second Kid %s of %s: %v", inner, op, got)
				}
			}
		}
	}
}

// P5.3: at every kind of parent, and of none, each Kid at each place: what the chapter names stands in parentheses, nothing else.
func TestParenOfKinds(t *testing.T) {
	for kind := -1; kind <= 35; kind++ {
		for _, is := range sorts() {
			all := []api.Node{is.node, is.node, is.node, is.node}
			for _, op := range []string{"", "-", "*"} {
				for place := range all {
					want := false
					binaryOrUnary := is.node.Kind == api.KBinary || is.node.Kind == api.KUnary
					switch kind {
					case api.KUnary:
						want = binaryOrUnary
					case api.KCall, api.KIndex, api.KDot:
						want = binaryOrUnary && place == 0
					case api.KBinary:
						if op == "" {
							continue // it binds in no way
						}
						want = is.node.Kind == api.KBinary && (op == "*" && place == 0 || place == 1)
					}
					if got := tree.Paren(node(kind, op, all...), place); got != want {
						t.Errorf("Paren of kind %d %q, Kid %s, place %d: %v", kind, op, is.name, place, got)
					}
				}
			}
		}
	}
}

// P5.3: the chapter's examples, and places that there aren't.
func TestParenOfPlaces(t *testing.T) {
	x, y, z := name("a"), name("b"), name("c")
	if right := binary("-", x, binary("-", y, z)); tree.Paren(right, 0) || !tree.Paren(right, 1) {
		t.Error("a - (b - c)")
	}
	if left := binary("-", binary("-", x, y), z); tree.Paren(left, 0) || tree.Paren(left, 1) {
		t.Error("(a - b) - c")
	}
	if !tree.Paren(unary("-", unary("-", x)), 0) || tree.Paren(unary("-", x), 0) {
		t.Error("- (- x)")
	}
	for _, is := range sorts() {
		sum, minus := binary("||", x, y), unary("-", x)
		for _, n := range []api.Node{is.node, node(is.node.Kind, is.node.Text), node(is.node.Kind, is.node.Text, sum), node(is.node.Kind, is.node.Text, minus, sum)} {
			l := roomy(n)
			for i := range cap(l.Kids) {
				if i >= len(l.Kids) {
					l.Kids[:cap(l.Kids)][i] = sum
				}
			}
			for _, place := range []int{-1, -2, len(n.Kids), len(n.Kids) + 1, 256, 1 << 32, -1 << 32, math.MaxInt, math.MinInt, math.MaxInt32, math.MinInt32} {
				if tree.Paren(l, place) {
					t.Errorf("Paren of a %s with %d Kids at %d", is.name, len(n.Kids), place)
				}
			}
		}
	}
}

// P5.2: nodes, each ahead of its Kids, numbered from 0 on, with their own Kids.
func TestAll(t *testing.T) {
	x, y, z := name("x"), name("y"), name("z")
	first, second := call(x, binary("+", y, z)), index(z, y)
	n := call(first, second, x)
	want := []api.Node{n, first, x, binary("+", y, z), y, z, second, z, y, x}
	next := 0
	for place, n := range tree.All(n) {
		if place != next || next >= len(want) || written(n) != written(want[next]) {
			t.Fatalf("%d: %s", place, written(n))
		}
		next++
	}
	if next != len(want) {
		t.Errorf("%d nodes", next)
	}
	for _, n := range append(mutants(), api.Node{}, api.Node{Kids: []api.Node{}}) {
		l, next := slices.Collect(places(n)), 0
		for place, n := range tree.All(n) {
			if place != next || next >= len(l) || written(n) != written(l[next].node) {
				t.Fatalf("%d: %s", place, written(n))
			}
			next++
		}
		if next != len(l) {
			t.Fatalf("%d nodes of %d", next, len(l))
		}
	}
}

// P5.2: a range may end at any node, the first and the last among them, and then nothing more is told; another one begins anew.
func TestAllEnds(t *testing.T) {
	n := whole()
	size := tree.Size(n)
	all := tree.All(n)
	for last := range size {
		seen := 0
		for place := range all {
			seen++
			if place == last {
				break
			}
		}
		if seen != last+1 {
			t.Fatalf("%d nodes were told of a range that ends at %d", seen, last)
		}
		told := 0
		all(func(place int, n api.Node) bool {
			told++
			return place != last
		})
		if told != last+1 {
			t.Fatalf("%d nodes were told to one that ends at %d", told, last)
		}
	}
	pairs := 0
	for range all {
		for range all {
			pairs++
		}
	}
	if pairs != size*size {
		t.Errorf("%d pairs of %d nodes", pairs, size)
	}
}

// P5.4: what is told is new memory: what is done to it shows neither in the tree nor in what another range tells; and the tree isn't kept.
func TestAllIsNewMemory(t *testing.T) {
	n, want := roomy(whole()), writtenRoom(roomy(whole()))
	all := tree.All(n)
	count := 0
	for _, told := range all {
		scribble(told)
		count++
	}
	if writtenRoom(n) != want || count != tree.Size(n) {
		t.Errorf("%d nodes; the tree became %s", count, writtenRoom(n))
	}
	for _, told := range tree.All(n) {
		if len(told.Kids) > 0 {
			told.Kids[0] = told // a tree within itself
		}
	}
	scribble(n)
	l, next := slices.Collect(places(whole())), 0
	for _, told := range all {
		if written(told) != written(l[next].node) {
			t.Fatalf("%d: %s", next, written(told))
		}
		next++
	}
	if next != len(l) {
		t.Errorf("%d nodes of %d", next, len(l))
	}
}

// wantGoneThrough holds that all calls go through a tree of so many nodes.
func wantGoneThrough(t *testing.T, what string, n api.Node, size int, right bool) {
	t.Helper()
	if tree.Right(n) != right {
		t.Errorf("%s: Right isn't %v", what, right)
	}
	if got := tree.Size(n); got != size {
		t.Errorf("%s: Size is %d; want %d", what, got, size)
	}
	c := tree.Copy(n)
	if !tree.Same(n, c) || tree.Same(n, api.Node{}) || tree.Same(n, c.Kids[0]) {
		t.Errorf("%s: Same isn't so of its copy alone", what)
	}
	next := 0
	for place := range tree.All(n) {
		if place != next {
			t.Fatalf("%s: place %d as number %d", what, place, next)
		}
		next++
	}
	if next != size {
		t.Errorf("%s: All tells %d nodes", what, next)
	}
	tree.Paren(n, 0)
}

// P1: trees as deeply nested as the document speaks of, by their first Kids, the second, the last; and very broad ones.
func TestLargeTreesAreGoneThrough(t *testing.T) {
	const many = 1 << 16
	x := name("x")
	for what, around := range map[string]func(n api.Node) api.Node{
		"only Kids":   pointer,
		"first Kids":  func(n api.Node) api.Node { return call(n, x) },
		"second Kids": func(n api.Node) api.Node { return binary("+", x, n) },
		"last Kids":   func(n api.Node) api.Node { return branch(x, block(), n) },
	} {
		n := x
		for range many - 3 {
			n = around(n)
		}
		beside := tree.Size(around(x)) - 2
		size := 4 + (many-3)*(1+beside)
		if n.Kind == api.KPtr {
			wantGoneThrough(t, what, file(pack(), named(n)), size, false)
		} else {
			wantGoneThrough(t, what, file(pack(), constant(n)), size, n.Kind == api.KCall)
		}
	}
	broad := slices.Repeat([]api.Node{constant(x)}, 1<<18)
	wantGoneThrough(t, "broad", file(append([]api.Node{pack()}, broad...)...), 2+1<<19, true)
	wantGoneThrough(t, "odd", api.Node{Kids: make([]api.Node, 1<<18)}, 1+1<<18, false)
}

// P1: sums, calls and dots of any length are no deeper than their parts, and need no more room to be gone through.
func TestLongSumsNeedLittleRoom(t *testing.T) {
	const many = 1 << 16
	defer debug.SetMaxStack(debug.SetMaxStack(1 << 19))
	x := name("x")
	sum, dots, calls := x, x, x
	for range many {
		sum, dots, calls = binary("+", sum, number()), dot(dots), call(calls)
	}
	wantGoneThrough(t, "sum", file(pack(), constant(sum)), 4+2*many, true)
	wantGoneThrough(t, "dots", file(pack(), variable(none(), dots)), 5+many, true)
	wantGoneThrough(t, "calls", file(pack(), body(do(calls))), 9+many, true)
}

// P1: nodes and texts that make no sense.
func TestOddArguments(t *testing.T) {
	long := strings.Repeat("x", api.MaxInput+1)
	odd := []string{"", "\xff", "\x00", long, "// " + long, `"` + long + `"`, strings.Repeat("1", api.MaxInput+1), strings.Repeat("\xff", api.MaxInput+1)}
	for kind := -1; kind <= 35; kind++ {
		for _, text := range odd {
			n := api.Node{Kind: kind, Text: text, Trail: text}
			for _, kids := range [][]api.Node{nil, {}, {{}}, {n}, {n, {}, n, n, n, n}} {
				n.Kids = kids
				if tree.Right(n) || !tree.Same(n, tree.Copy(n)) || tree.Size(n) < 1 {
					t.Errorf("kind %d, %.9q, %d Kids", kind, text, len(kids))
				}
				tree.Right(around(n))
				for place := range tree.All(n) {
					tree.Paren(n, place)
				}
			}
		}
	}
}
