package print_test

import (
	"math/rand"
	"strings"

	"scarf/api"
)

func node(kind int, text string, kids ...api.Node) api.Node {
	return api.Node{Kind: kind, Text: text, Kids: kids}
}

func none() api.Node { return node(api.KNone, "") }

func name(s string) api.Node { return node(api.KName, s) }

func binary(op string, a, b api.Node) api.Node { return node(api.KBinary, op, a, b) }

func trail(s string, n api.Node) api.Node {
	n.Trail = s
	return n
}

// fileOf is a file of a package and items behind it.
func fileOf(items ...api.Node) api.Node {
	return node(api.KFile, "", append([]api.Node{node(api.KPackage, "p")}, items...)...)
}

// bodyOf is a function of statements.
func bodyOf(statements ...api.Node) api.Node {
	return node(api.KFunc, "f", none(), node(api.KParams, ""), none(), node(api.KBlock, "", statements...))
}

// The operators, those of one strength in one text, the weakest first.
var (
	binaries = []string{"||", "&&", "== != < <= > >=", "+ - | ^", "* / % << >> & &^"}
	unaries  = "- ! ^ * & +"
)

// maker makes programs' trees by chance; those of no room are made of no more than they must be.
type maker struct{ *rand.Rand }

func (m maker) one(words string) string {
	l := strings.Fields(words)
	return l[m.Intn(len(l))]
}

func (m maker) name() string {
	return m.one("a b c x9 _ T iffy a_rather_long_name_that_leaves_no_room")
}

func (m maker) some(room, most int, make func(int) api.Node) []api.Node {
	var l []api.Node
	for range m.Intn(min(room, most) + 1) {
		l = append(l, make(room-1))
	}
	return l
}

// or is, by chance, what is made, or nothing.
func (m maker) or(made api.Node) api.Node {
	if m.Intn(2) == 0 {
		return none()
	}
	return made
}

func (m maker) expression(room int) api.Node {
	if room <= 0 {
		return m.plain()
	}
	switch m.Intn(8) {
	case 0, 1, 2:
		return binary(m.one(m.pick(binaries)), m.expression(room-1), m.expression(room-1))
	case 3:
		return node(api.KUnary, m.one(unaries), m.expression(room-1))
	case 4:
		return m.call(room)
	case 5:
		return node(api.KIndex, "", m.expression(room-1), m.expression(room-1))
	case 6:
		return node(api.KDot, m.name(), m.expression(room-1))
	}
	return m.plain()
}

func (m maker) pick(l []string) string { return l[m.Intn(len(l))] }

func (m maker) plain() api.Node {
	switch m.Intn(5) {
	case 0:
		return node(api.KInt, m.one("0 1 20 12345678901234567890123"))
	case 1:
		return node(api.KStr, m.pick([]string{`""`, `"s"`, `"//"`, `"\""`, `"é€😀\\"`, "\" \t \r \\\t{;\""}))
	}
	return name(m.name())
}

func (m maker) call(room int) api.Node {
	return node(api.KCall, "", append([]api.Node{m.expression(room - 1)}, m.some(room, 4, m.expression)...)...)
}

func (m maker) place(room int) api.Node {
	switch m.Intn(4) {
	case 0:
		return node(api.KIndex, "", m.expression(room-1), m.expression(room-1))
	case 1:
		return node(api.KDot, m.name(), m.expression(room-1))
	case 2:
		return node(api.KUnary, "*", m.expression(room-1))
	}
	return name(m.name())
}

func (m maker) typ(room int) api.Node {
	if room > 0 {
		switch m.Intn(6) {
		case 0:
			return node(api.KPtr, "", m.typ(room-1))
		case 1:
			return node(api.KSlice, "", m.typ(room-1))
		case 2:
			return node(api.KMap, "", m.typ(room-1), m.typ(room-1))
		case 3:
			return node(api.KStruct, "", m.some(room, 3, m.field)...)
		}
	}
	return name(m.name())
}

func (m maker) remark() string {
	return m.pick([]string{"//", "// t", "///", "//t//u", "// é", "//;}", "// \"", "//\t{ (", "// a remark of some length, behind which there is more"})
}

func (m maker) note() api.Node { return node(api.KNote, m.remark()) }

// trailed gives an item a remark, by chance.
func (m maker) trailed(n api.Node) api.Node {
	if m.Intn(4) == 0 {
		n.Trail = m.remark()
	}
	return n
}

func (m maker) field(room int) api.Node {
	if m.Intn(4) == 0 {
		return m.note()
	}
	return m.trailed(node(api.KField, m.name(), m.typ(room)))
}

func (m maker) variable(room int) api.Node {
	typ, value := m.typ(room), m.expression(room)
	switch m.Intn(3) {
	case 0:
		typ = none()
	case 1:
		value = none()
	}
	return node(api.KVar, m.name(), typ, value)
}

func (m maker) block(room int) api.Node {
	return node(api.KBlock, "", m.some(room, 4, m.statement)...)
}

func (m maker) branch(room int) api.Node {
	n := node(api.KIf, "", m.expression(room), m.block(room), none())
	switch m.Intn(3) {
	case 0:
		n.Kids[2] = m.block(room)
	case 1:
		if room > 0 {
			n.Kids[2] = m.branch(room - 1)
		}
	}
	return n
}

func (m maker) statement(room int) api.Node {
	switch m.Intn(12) {
	case 0:
		return m.note()
	case 1:
		return m.trailed(m.block(room))
	case 2:
		return m.trailed(m.branch(room))
	case 3:
		return m.trailed(node(api.KFor, "", m.or(m.expression(room)), m.block(room)))
	case 4:
		return m.trailed(node(api.KReturn, "", m.some(room, 4, m.expression)...))
	case 5:
		return m.trailed(node(api.KBreak, ""))
	case 6:
		return m.trailed(node(api.KContinue, ""))
	case 7:
		return m.trailed(node(api.KAssign, ":=", name(m.name()), m.expression(room)))
	case 8:
		return m.trailed(node(api.KAssign, m.one("= += -= *= /= %="), m.place(room), m.expression(room)))
	case 9:
		return m.trailed(node(api.KInc, m.one("++ --"), m.place(room)))
	case 10:
		return m.trailed(m.variable(room))
	}
	return m.trailed(node(api.KDo, "", m.call(room)))
}

func (m maker) parameter(room int) api.Node {
	return node(api.KParam, m.name(), m.typ(room))
}

func (m maker) declaration(room int) api.Node {
	switch m.Intn(6) {
	case 0:
		return m.note()
	case 1:
		return m.trailed(node(api.KConst, m.name(), m.expression(room)))
	case 2:
		return m.trailed(m.variable(room))
	case 3:
		return m.trailed(node(api.KType, m.name(), m.typ(room)))
	}
	params := node(api.KParams, "", m.some(room, 4, m.parameter)...)
	return m.trailed(node(api.KFunc, m.name(), m.or(m.parameter(room)), params, m.or(m.typ(room)), m.block(room)))
}

func (m maker) file(room int) api.Node {
	var l []api.Node
	for range m.Intn(3) {
		l = append(l, m.note())
	}
	l = append(l, m.trailed(node(api.KPackage, m.name())))
	for range m.Intn(4) {
		if m.Intn(3) == 0 {
			l = append(l, m.note())
		}
		l = append(l, m.trailed(node(api.KImport, m.one(`"" "s" "a/b"`))))
	}
	return node(api.KFile, "", append(l, m.some(room, 5, m.declaration)...)...)
}

// made hands on programs' trees, made by chance.
func made(n int64, to func(seed int64, file api.Node)) {
	for seed := range n {
		m := maker{rand.New(rand.NewSource(seed))}
		to(seed, m.file(m.Intn(7)))
	}
}
