package tree

import (
	"slices"

	"scarf/api"
	"scarf/lex"
)

// test tells whether a node is of some sort.
type test func(n api.Node) bool

// part takes Kids from the front of a row, and tells those behind them; false, if they aren't as they must be.
type part func(kids []api.Node) ([]api.Node, bool)

// Right tells whether t is a program's tree: a KFile whose nodes are as their kinds ask, none deeper than MaxDeep.
func Right(t api.Node) bool {
	var right func(n api.Node, item bool, deep int) bool
	right = func(n api.Node, item bool, deep int) bool {
		for deep <= api.MaxDeep && fits(n, item) {
			if len(n.Kids) == 0 {
				return true
			}
			items := holdsItems(n.Kind)
			for i, kid := range n.Kids[1:] {
				if !right(kid, items, deep+deeper(n, i+1)) {
					return false
				}
			}
			n, item, deep = n.Kids[0], items, deep+deeper(n, 0)
		}
		return false
	}
	return t.Kind == api.KFile && right(t, false, 0)
}

// fits tells whether a node is as its kind asks, but for what its Kids are made of.
func fits(n api.Node, item bool) bool {
	return textFits(n) && trailFits(n, item) && kidsFit(n)
}

// holdsItems tells whether the Kids of that kind are items.
func holdsItems(kind int) bool {
	return kind == api.KFile || kind == api.KBlock || kind == api.KStruct
}

// deeper tells how much deeper than parent its Kid at that place stands.
func deeper(parent api.Node, place int) int {
	n := 0
	if Paren(parent, place) {
		n++
	}
	switch parent.Kind {
	case api.KUnary, api.KPtr, api.KSlice, api.KMap, api.KStruct, api.KParams, api.KBlock:
		n++
	case api.KCall, api.KIndex:
		if place > 0 {
			n++
		}
	case api.KIf:
		if place == 2 && parent.Kids[place].Kind == api.KIf {
			n++
		}
	}
	return n
}

// textFits tells whether a node's Text is as its kind asks.
func textFits(n api.Node) bool {
	switch n.Kind {
	case api.KPackage, api.KConst, api.KVar, api.KType, api.KFunc, api.KField, api.KParam, api.KName, api.KDot:
		return lex.Name(n.Text)
	case api.KImport, api.KStr:
		return token(n.Text, lex.String)
	case api.KInt:
		return token(n.Text, lex.Number)
	case api.KNote:
		return token(n.Text, lex.Remark)
	case api.KAssign:
		return slices.Contains([]string{"=", ":=", "+=", "-=", "*=", "/=", "%="}, n.Text)
	case api.KInc:
		return n.Text == "++" || n.Text == "--"
	case api.KUnary:
		return slices.Contains([]string{"-", "!", "^", "*", "&", "+"}, n.Text)
	case api.KBinary:
		return Level(n.Text) > 0
	}
	return n.Text == ""
}

// trailFits tells whether a node may have the Trail that it has.
func trailFits(n api.Node, item bool) bool {
	return n.Trail == "" || item && n.Kind != api.KNote && token(n.Trail, lex.Remark)
}

// token tells whether a text is just one token, of that kind.
func token(s string, kind int) bool {
	l, _, e := lex.Tokens([]byte(s))
	return e == api.OK && len(l) > 0 && l[0].Kind == kind && l[0].Text == s
}

// kidsFit tells whether a node's Kids are of the kinds that its own asks, and as many.
func kidsFit(n api.Node) bool {
	none := of(api.KNone)
	switch n.Kind {
	case api.KFile:
		return row(n.Kids, many(of(api.KNote)), one(of(api.KPackage)), many(of(api.KImport, api.KNote)), many(isDeclaration))
	case api.KPackage, api.KImport, api.KNote, api.KName, api.KInt, api.KStr, api.KBreak, api.KContinue, api.KNone:
		return len(n.Kids) == 0
	case api.KConst, api.KUnary, api.KDot:
		return row(n.Kids, one(isExpression))
	case api.KVar:
		return row(n.Kids, one(isType, none), one(isExpression, none)) && !row(n.Kids, one(none), one(none))
	case api.KType, api.KPtr, api.KSlice, api.KField, api.KParam:
		return row(n.Kids, one(isType))
	case api.KFunc:
		return row(n.Kids, one(of(api.KParam), none), one(of(api.KParams)), one(isType, none), one(of(api.KBlock)))
	case api.KMap:
		return row(n.Kids, one(isType), one(isType))
	case api.KStruct:
		return row(n.Kids, many(of(api.KField, api.KNote)))
	case api.KParams:
		return row(n.Kids, many(of(api.KParam)))
	case api.KBlock:
		return row(n.Kids, many(isStatement))
	case api.KIf:
		return row(n.Kids, one(isExpression), one(of(api.KBlock)), one(of(api.KBlock, api.KIf), none))
	case api.KFor:
		return row(n.Kids, one(isExpression, none), one(of(api.KBlock)))
	case api.KReturn:
		return row(n.Kids, many(isExpression))
	case api.KAssign:
		if n.Text == ":=" {
			return row(n.Kids, one(of(api.KName)), one(isExpression))
		}
		return row(n.Kids, one(isPlace), one(isExpression))
	case api.KInc:
		return row(n.Kids, one(isPlace))
	case api.KDo:
		return row(n.Kids, one(of(api.KCall)))
	case api.KBinary, api.KIndex:
		return row(n.Kids, one(isExpression), one(isExpression))
	case api.KCall:
		return row(n.Kids, one(isExpression), many(isExpression))
	}
	return false
}

// row tells whether Kids are these parts, one behind the other.
func row(kids []api.Node, parts ...part) bool {
	for _, take := range parts {
		behind, ok := take(kids)
		if !ok {
			return false
		}
		kids = behind
	}
	return len(kids) == 0
}

// one is a part of one Kid, that passes one of the tests.
func one(tests ...test) part {
	return func(kids []api.Node) ([]api.Node, bool) {
		if len(kids) == 0 {
			return nil, false
		}
		passes := func(is test) bool { return is(kids[0]) }
		return kids[1:], slices.ContainsFunc(tests, passes)
	}
}

// many is a part of all Kids up to the first that doesn't pass the test.
func many(is test) part {
	return func(kids []api.Node) ([]api.Node, bool) {
		for len(kids) > 0 && is(kids[0]) {
			kids = kids[1:]
		}
		return kids, true
	}
}

// of is the test for some kinds.
func of(kinds ...int) test {
	return func(n api.Node) bool { return slices.Contains(kinds, n.Kind) }
}

// isDeclaration tells whether a node is one that stands behind a file's imports, or a remark there.
func isDeclaration(n api.Node) bool {
	switch n.Kind {
	case api.KConst, api.KVar, api.KType, api.KFunc, api.KNote:
		return true
	}
	return false
}

func isType(n api.Node) bool {
	switch n.Kind {
	case api.KName, api.KPtr, api.KSlice, api.KMap, api.KStruct:
		return true
	}
	return false
}

func isExpression(n api.Node) bool {
	switch n.Kind {
	case api.KName, api.KInt, api.KStr, api.KUnary, api.KBinary, api.KCall, api.KIndex, api.KDot:
		return true
	}
	return false
}

// isPlace tells whether a node is one to which something may be assigned.
func isPlace(n api.Node) bool {
	switch n.Kind {
	case api.KName, api.KIndex, api.KDot:
		return true
	case api.KUnary:
		return n.Text == "*"
	}
	return false
}

func isStatement(n api.Node) bool {
	switch n.Kind {
	case api.KVar, api.KNote, api.KBlock, api.KIf, api.KFor, api.KReturn, api.KAssign, api.KInc, api.KDo, api.KBreak, api.KContinue:
		return true
	}
	return false
}
