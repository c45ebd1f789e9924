package meld_test

import (
	"fmt"
	"math/rand"
	"strings"
	"testing"

	"scarf/api"
	"scarf/tree"
)

// part is an item or a statement, and what stands in its braces, if it has some.
type part struct {
	head   string
	braces bool
	below  []part
}

// text is what parts are written as, line by line.
func text(parts []part) string {
	var s strings.Builder
	for _, p := range parts {
		s.WriteString(p.head)
		if p.braces {
			s.WriteString(" {\n" + text(p.below) + "}")
		}
		s.WriteString("\n")
	}
	return s.String()
}

// maker makes programs by chance; many of their parts are alike.
type maker struct{ *rand.Rand }

func (m maker) pick(l ...string) string { return l[m.Intn(len(l))] }

func (m maker) expression(room int) string {
	if room > 0 {
		switch m.Intn(6) {
		case 0:
			return m.expression(room-1) + m.pick(" + ", " * ") + m.expression(room-1)
		case 1:
			return "!" + m.expression(room-1)
		case 2:
			return m.pick("f", "g") + "(" + m.expression(room-1) + ", " + m.expression(room-1) + ")"
		}
	}
	return m.pick("x", "x", "y", "1", "2", `"s"`)
}

func (m maker) typ() string { return m.pick("int", "*int", "[]int", "map[int]x") }

func (m maker) statement(room int) part {
	if room > 0 && m.Intn(3) == 0 {
		return part{m.pick("if ", "for ") + m.expression(1), true, m.statements(room - 1)}
	}
	switch m.Intn(4) {
	case 0:
		return part{head: m.pick("x++", "y--", "break", "// n", "return", "x++ // n")}
	case 1:
		return part{head: m.pick("x", "y", "x[1]") + " = " + m.expression(2)}
	case 2:
		return part{head: m.pick("var w ", "var v ") + m.typ()}
	}
	return part{head: m.pick("f", "g") + "(" + m.expression(2) + ")"}
}

func (m maker) statements(room int) []part {
	var l []part
	for range m.Intn(4) {
		l = append(l, m.statement(room))
	}
	return l
}

// item is one with a key that hangs on the number alone.
func (m maker) item(number int) part {
	switch number % 5 {
	case 0:
		return part{head: fmt.Sprint("const c", number, " = ", m.expression(3), m.pick("", "", " // n"))}
	case 1:
		return part{head: fmt.Sprint("var v", number, m.pick("", " int", " *int"), " = ", m.expression(3))}
	case 2:
		return part{head: fmt.Sprint("type t", number, " ", m.typ(), m.pick("", " // n"))}
	case 3:
		return part{fmt.Sprint("func f", number, m.pick("()", "(a int)", "(a int, b x)"), m.pick("", "int")), true, m.statements(2)}
	}
	return part{fmt.Sprint("func (", m.pick("r", "s"), " *t", number, ") f()"), true, m.statements(2)}
}

// note is what has no key and may stand among a file's items.
func (m maker) note() part { return part{head: m.pick("// n", "// n", "// m")} }

// fresh is what may be put into the row of a file's items, or of statements.
func (m maker) fresh(items bool) part {
	switch {
	case !items:
		return m.statement(1)
	case m.Intn(3) == 0:
		return m.note()
	}
	return m.item(m.Intn(20))
}

// changed is l with some parts taken out, put in, changed, moved, put into others.
func (m maker) changed(l []part, items bool) []part {
	var made []part
	for _, p := range l {
		if m.Intn(2) == 0 {
			p.below = m.changed(p.below, false)
		}
		switch m.Intn(24) {
		case 0:
		case 1:
			made = append(made, p, m.fresh(items))
		case 2:
			made = append(made, m.fresh(items))
		case 3:
			made = append([]part{p}, made...)
		case 4:
			if !items {
				p = part{"if x", true, []part{p}}
			}
			made = append(made, p)
		default:
			made = append(made, p)
		}
	}
	return made
}

// items are some of a file's; most keys stand there once.
func (m maker) items() []part {
	var l []part
	for _, number := range m.Perm(20)[:m.Intn(7)] {
		l = append(l, m.item(number))
		if m.Intn(4) == 0 {
			l = append(l, m.fresh(true))
		}
	}
	return l
}

// P14.2, P14.3: programs by chance and changed ones, three by three.
func TestProgramsByChance(t *testing.T) {
	sound, both := 0, 0
	for seed := range 300 {
		m := maker{rand.New(rand.NewSource(int64(seed)))}
		base := m.items()
		ours := m.changed(base, true)
		b, o := program(t, text(base)), program(t, text(ours))
		for _, l := range [][]part{m.changed(base, true), m.changed(ours, true), m.items()} {
			th := program(t, text(l))
			if n, ok := hold(t, b, o, th); ok {
				sound++
				if !tree.Same(n, o) && !tree.Same(n, th) {
					both++
				}
			}
			holdSame(t, b, th)
		}
	}
	if sound < 500 || both < 30 {
		t.Error(sound, both)
	}
}

// P14.3: items that have keys, in one order, some changed by one side and some by the other, and others that stay; among them remarks and imports.
func TestItemsByChance(t *testing.T) {
	for seed := range 700 {
		m := maker{rand.New(rand.NewSource(int64(seed)))}
		var rows [4][]part // base, ours, theirs, what is asked for
		add := func(b, o, th, want part) {
			for i, p := range [4]part{b, o, th, want} {
				rows[i] = append(rows[i], p)
			}
		}
		change := func(make func() part) {
			p, other := make(), make()
			switch m.Intn(3) {
			case 0:
				add(p, p, p, p)
			case 1:
				add(p, other, p, other)
			case 2:
				add(p, p, other, other)
			}
		}
		change(func() part { return part{head: "package " + m.pick("p", "q") + m.pick("", " // n")} })
		for range m.Intn(3) {
			p := part{head: m.pick(`import "a"`, `import "a" // n`, `import "b"`, "// n")}
			add(p, p, p, p)
		}
		for _, number := range m.Perm(30)[:m.Intn(9)] {
			change(func() part { return m.item(number) })
			for range m.Intn(3) / 2 {
				p := m.note()
				add(p, p, p, p)
			}
		}
		var trees [4]api.Node
		for i, row := range rows {
			trees[i] = read(t, text(row))
		}
		merges(t, trees[0], trees[1], trees[2], trees[3])
	}
}
