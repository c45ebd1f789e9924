package print

import (
	"slices"

	"scarf/api"
	"scarf/doc"
	"scarf/tree"
)

// document tells the document of a node of a program's tree.
func document(n api.Node) doc.Doc {
	// A long sum is nested by its first Kids, deeper than calls may be within one another: so a loop goes down those.
	var within []api.Node
	for beginsWithKid(n.Kind) {
		within = append(within, n)
		n = n.Kids[0]
	}
	d := of(n)
	for _, n := range slices.Backward(within) {
		d = behind(operand(n, 0, d), n)
	}
	return d
}

// beginsWithKid tells whether an expression of that kind begins with its first Kid.
func beginsWithKid(kind int) bool {
	switch kind {
	case api.KBinary, api.KCall, api.KIndex, api.KDot:
		return true
	}
	return false
}

// of tells the document of a node, but not of an expression that begins with its first Kid.
func of(n api.Node) doc.Doc {
	switch n.Kind {
	case api.KFile:
		return file(n.Kids)
	case api.KPackage:
		return texts("package ", n.Text)
	case api.KImport:
		return texts("import ", n.Text)
	case api.KNote, api.KName, api.KInt, api.KStr:
		return doc.Text(n.Text)
	case api.KConst:
		return doc.Group(doc.Row(texts("const ", n.Text, " ="), further(document(n.Kids[0]))))
	case api.KVar:
		return variable(n)
	case api.KType:
		return doc.Row(texts("type ", n.Text, " "), document(n.Kids[0]))
	case api.KFunc:
		return function(n)
	case api.KPtr:
		return doc.Row(doc.Text("*"), document(n.Kids[0]))
	case api.KSlice:
		return doc.Row(doc.Text("[]"), document(n.Kids[0]))
	case api.KMap:
		return doc.Row(doc.Text("map["), document(n.Kids[0]), doc.Text("]"), document(n.Kids[1]))
	case api.KStruct:
		return doc.Row(doc.Text("struct "), braces(n.Kids...))
	case api.KField, api.KParam:
		return doc.Row(texts(n.Text, " "), document(n.Kids[0]))
	case api.KBlock:
		return braces(n.Kids...)
	case api.KIf:
		return branch(n)
	case api.KFor:
		return loop(n)
	case api.KReturn:
		return returned(n.Kids)
	case api.KAssign:
		return doc.Group(doc.Row(document(n.Kids[0]), texts(" ", n.Text), further(document(n.Kids[1]))))
	case api.KInc:
		return doc.Row(document(n.Kids[0]), doc.Text(n.Text))
	case api.KDo:
		return document(n.Kids[0])
	case api.KBreak:
		return doc.Text("break")
	case api.KContinue:
		return doc.Text("continue")
	case api.KUnary:
		return doc.Row(doc.Text(n.Text), operand(n, 0, document(n.Kids[0])))
	}
	return doc.Doc{}
}

// behind tells first, the document of n's first Kid, with the rest of n behind it.
func behind(first doc.Doc, n api.Node) doc.Doc {
	switch n.Kind {
	case api.KBinary:
		return doc.Group(doc.Row(first, texts(" ", n.Text), further(operand(n, 1, document(n.Kids[1])))))
	case api.KCall:
		return doc.Row(first, list("(", ")")(documents(n.Kids[1:]...)...))
	case api.KIndex:
		return doc.Row(first, list("[", "]")(document(n.Kids[1])))
	}
	return doc.Row(first, texts(".", n.Text))
}

func variable(n api.Node) doc.Doc {
	d := texts("var ", n.Text)
	if given(n.Kids[0]) {
		d = doc.Row(d, doc.Text(" "), document(n.Kids[0]))
	}
	if given(n.Kids[1]) {
		d = doc.Row(d, doc.Group(doc.Row(doc.Text(" ="), further(document(n.Kids[1])))))
	}
	return d
}

func function(n api.Node) doc.Doc {
	d := doc.Text("func ")
	if given(n.Kids[0]) {
		d = doc.Row(d, doc.Text("("), document(n.Kids[0]), doc.Text(") "))
	}
	d = doc.Row(d, doc.Text(n.Text), list("(", ")")(documents(n.Kids[1].Kids...)...))
	if given(n.Kids[2]) {
		d = doc.Row(d, doc.Text(" "), document(n.Kids[2]))
	}
	return doc.Row(d, doc.Text(" "), document(n.Kids[3]))
}

func branch(n api.Node) doc.Doc {
	d := doc.Row(doc.Text("if "), document(n.Kids[0]), doc.Text(" "), document(n.Kids[1]))
	if given(n.Kids[2]) {
		d = doc.Row(d, doc.Text(" else "), document(n.Kids[2]))
	}
	return d
}

func loop(n api.Node) doc.Doc {
	d := doc.Text("for ")
	if given(n.Kids[0]) {
		d = doc.Row(d, document(n.Kids[0]), doc.Text(" "))
	}
	return doc.Row(d, document(n.Kids[1]))
}

func returned(values []api.Node) doc.Doc {
	if len(values) == 0 {
		return doc.Text("return")
	}
	return doc.Row(texts("return", " "), doc.Group(doc.Nest(commas(documents(values...)...))))
}

func file(items []api.Node) doc.Doc {
	var l []doc.Doc
	for i, n := range items {
		if i > 0 {
			for range Gap(items[i-1], n) {
				l = append(l, doc.Hard())
			}
		}
		l = append(l, item(n))
	}
	return doc.Row(append(l, doc.Hard())...)
}

func item(n api.Node) doc.Doc {
	if n.Trail == "" {
		return document(n)
	}
	return doc.Row(document(n), texts(" ", n.Trail))
}

// braces tells items between braces, each on lines of its own.
func braces(items ...api.Node) doc.Doc {
	if len(items) == 0 {
		return doc.Text("{}")
	}
	var l []doc.Doc
	for _, n := range items {
		l = append(l, doc.Hard(), item(n))
	}
	return doc.Row(doc.Text("{"), doc.Nest(doc.Row(l...)), doc.Hard(), doc.Text("}"))
}

// documents gathers the documents of Kids that stand in a row.
func documents(kids ...api.Node) []doc.Doc {
	var l []doc.Doc
	for _, n := range kids {
		l = append(l, document(n))
	}
	return l
}

// list tells what puts documents between open and shut, with commas between any two.
func list(open, shut string) func(l ...doc.Doc) doc.Doc {
	return func(l ...doc.Doc) doc.Doc {
		if len(l) == 0 {
			return texts(open, shut)
		}
		return doc.Group(doc.Row(doc.Text(open), doc.Nest(doc.Row(doc.Soft(), commas(l...))), doc.Text(shut)))
	}
}

func commas(l ...doc.Doc) doc.Doc {
	return doc.Join(doc.Row(doc.Text(","), doc.Line()), l...)
}

// operand tells d, the document of n's Kid at that place, in the parentheses that it needs there.
func operand(n api.Node, place int, d doc.Doc) doc.Doc {
	if !tree.Paren(n, place) {
		return d
	}
	return list("(", ")")(d)
}

// further tells d behind a blank, or on a line of its own that begins further right.
func further(d doc.Doc) doc.Doc {
	return doc.Nest(doc.Row(doc.Line(), d))
}

func texts(l ...string) doc.Doc {
	var parts []doc.Doc
	for _, s := range l {
		parts = append(parts, doc.Text(s))
	}
	return doc.Row(parts...)
}

// given tells whether a Kid that may be missing is there.
func given(n api.Node) bool {
	return n.Kind != api.KNone
}
