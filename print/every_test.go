package print_test

import (
	"slices"
	"strings"

	"scarf/api"
)

func call(l ...api.Node) api.Node { return node(api.KCall, "", l...) }

func block(l ...api.Node) api.Node { return node(api.KBlock, "", l...) }

func structOf(l ...api.Node) api.Node { return node(api.KStruct, "", l...) }

func constOf(n api.Node) api.Node { return node(api.KConst, "c", n) }

func typeOf(n api.Node) api.Node { return node(api.KType, "t", n) }

func note() api.Node { return node(api.KNote, "// n") }

// everyExpression is each kind of expression, those of others with each kind in each place.
func everyExpression() []api.Node {
	x, y := name("x"), name("y")
	some := []api.Node{x, node(api.KInt, "0"), node(api.KStr, `"s"`), call(x), call(x, y, x), node(api.KIndex, "", x, y), node(api.KDot, "d", x)}
	for _, op := range strings.Fields(unaries) {
		some = append(some, node(api.KUnary, op, x))
	}
	for _, op := range strings.Fields(strings.Join(binaries, " ")) {
		some = append(some, binary(op, x, y))
	}
	l := slices.Clone(some)
	for _, n := range some {
		l = append(l, call(n), call(x, n), call(n, n, n), node(api.KIndex, "", n, x), node(api.KIndex, "", x, n), node(api.KDot, "d", n))
		for _, op := range strings.Fields(unaries) {
			l = append(l, node(api.KUnary, op, n))
		}
		for _, op := range strings.Fields(strings.Join(binaries, " ")) {
			l = append(l, binary(op, n, x), binary(op, x, n), binary(op, n, n))
		}
	}
	return l
}

// everyType is each kind of type, those of others with each kind in each place.
func everyType() []api.Node {
	x := name("T")
	field := func(n api.Node) api.Node { return node(api.KField, "a", n) }
	some := []api.Node{x, node(api.KPtr, "", x), node(api.KSlice, "", x), node(api.KMap, "", x, name("V")), structOf(), structOf(field(x)), structOf(note()),
		structOf(note(), field(x), trail("// t", field(x)), note())}
	l := slices.Clone(some)
	for _, n := range some {
		l = append(l, node(api.KPtr, "", n), node(api.KSlice, "", n), node(api.KMap, "", n, x), node(api.KMap, "", x, n), structOf(trail("// t", field(n)), field(n)))
	}
	return l
}

// everyStatement is each kind of statement, with and without what may be missing.
func everyStatement() []api.Node {
	x, y := name("x"), name("y")
	inner := block(node(api.KBreak, ""))
	l := []api.Node{
		note(), block(), inner, block(note()), block(block(), note(), block(inner)),
		node(api.KIf, "", x, block(), none()), node(api.KIf, "", x, inner, none()), node(api.KIf, "", x, block(), block()), node(api.KIf, "", x, inner, inner),
		node(api.KIf, "", x, block(), node(api.KIf, "", y, inner, none())), node(api.KIf, "", x, inner, node(api.KIf, "", y, block(), inner)),
		node(api.KFor, "", none(), block()), node(api.KFor, "", x, block()), node(api.KFor, "", none(), inner), node(api.KFor, "", binary("<", x, y), inner),
		node(api.KReturn, ""), node(api.KReturn, "", x), node(api.KReturn, "", x, y), node(api.KReturn, "", x, binary("+", x, y), call(x)),
		node(api.KAssign, ":=", x, y), node(api.KDo, "", call(x)), node(api.KDo, "", call(binary("+", x, y), x)),
		node(api.KVar, "v", name("T"), none()), node(api.KVar, "v", none(), x), node(api.KVar, "v", name("T"), x),
		node(api.KBreak, ""), node(api.KContinue, ""),
	}
	for _, place := range []api.Node{x, node(api.KIndex, "", x, y), node(api.KDot, "d", x), node(api.KUnary, "*", x), node(api.KIndex, "", binary("+", x, y), y)} {
		for _, op := range strings.Fields("= += -= *= /= %=") {
			l = append(l, node(api.KAssign, op, place, y), node(api.KAssign, op, place, binary("+", x, y)))
		}
		l = append(l, node(api.KInc, "++", place), node(api.KInc, "--", place))
	}
	return l
}

// everyItem is each kind of item that may stand behind a file's package, with and without what may be missing.
func everyItem() []api.Node {
	l := []api.Node{node(api.KImport, `"s"`), note()}
	x, T := name("x"), name("T")
	for _, n := range everyExpression() {
		l = append(l, constOf(n))
	}
	for _, n := range everyType() {
		l = append(l, typeOf(n), node(api.KVar, "v", n, none()), node(api.KVar, "v", n, x))
	}
	l = append(l, node(api.KVar, "v", none(), x), node(api.KVar, "v", none(), binary("+", x, x)))
	a, b := node(api.KParam, "a", T), node(api.KParam, "b", structOf(node(api.KField, "c", T)))
	for _, receiver := range []api.Node{none(), a, b} {
		for _, result := range []api.Node{none(), T, structOf()} {
			for _, params := range [][]api.Node{nil, {a}, {a, b}, {b, a, a}} {
				l = append(l, node(api.KFunc, "f", receiver, node(api.KParams, "", params...), result, block()))
				l = append(l, node(api.KFunc, "f", receiver, node(api.KParams, "", params...), result, block(note())))
			}
		}
	}
	statements := everyStatement()
	for _, n := range statements {
		l = append(l, bodyOf(n))
		if n.Kind != api.KNote {
			l = append(l, bodyOf(trail("// t", n), trail("// t", n)), bodyOf(n, note(), n))
		}
	}
	l = append(l, bodyOf(statements...))
	for _, n := range l[:len(l):len(l)] {
		if n.Kind != api.KNote {
			l = append(l, trail("// t", n))
		}
	}
	return l
}

// everyFile is files with each pair of neighbours, and such as have their items' remarks at each place.
func everyFile() []api.Node {
	pack, x := node(api.KPackage, "p"), name("x")
	file := func(l ...api.Node) api.Node { return node(api.KFile, "", l...) }
	l := []api.Node{file(pack), file(trail("// t", pack)), file(note(), pack), file(note(), note(), pack), fileOf(note()), fileOf(note(), note())}
	imports := []api.Node{node(api.KImport, `"s"`), trail("// t", node(api.KImport, `""`)), note()}
	declarations := []api.Node{constOf(x), node(api.KVar, "v", name("T"), none()), typeOf(structOf()), bodyOf(), bodyOf(note()), trail("// t", bodyOf()), note()}
	for _, a := range imports {
		for _, b := range slices.Concat(imports, declarations) {
			l = append(l, fileOf(a, b), file(note(), pack, a, b, constOf(x)))
		}
	}
	for _, a := range declarations {
		for _, b := range declarations {
			l = append(l, fileOf(a, b), fileOf(note(), a, b, a))
		}
	}
	return l
}
