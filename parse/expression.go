package parse

import (
	"scarf/api"
	"scarf/lex"
	"scarf/tree"
)

func (p *parser) expression() api.Node {
	return p.binding(1)
}

// binding reads an expression whose operators, outside of parentheses, bind at least so strongly.
func (p *parser) binding(least int) api.Node {
	n := p.unary()
	for tree.Level(p.next().Text) >= least {
		op := p.take().Text
		n = node(api.KBinary, op, n, p.binding(tree.Level(op)+1))
	}
	return n
}

func (p *parser) unary() api.Node {
	t := p.begin(beginsUnary(p.next()))
	if !isSign(t) {
		return p.behind(p.first(t))
	}
	by := 1
	if isSign(p.next()) {
		by = 2 // as deep as in the parentheses that the tree gives it
	}
	return node(api.KUnary, t.Text, p.deeper(by, p.unary))
}

// first reads the rest of what begins with a token that is no operator.
func (p *parser) first(t lex.Token) api.Node {
	switch {
	case t.Kind == lex.Number:
		return node(api.KInt, t.Text)
	case t.Kind == lex.String:
		return node(api.KStr, t.Text)
	case t.Text == "(":
		n := p.deeper(1, p.expression)
		p.want(")")
		return n
	}
	return node(api.KName, t.Text)
}

// behind reads the calls, indexes and dots that stand behind n.
func (p *parser) behind(n api.Node) api.Node {
	for {
		switch p.next().Text {
		case "(":
			n = node(api.KCall, "", append([]api.Node{n}, p.list(p.expression)...)...)
		case "[":
			p.take()
			n = node(api.KIndex, "", n, p.deeper(1, p.expression))
			p.want("]")
		case ".":
			p.take()
			n = node(api.KDot, p.name(), n)
		default:
			return n
		}
	}
}

func beginsUnary(t lex.Token) bool {
	return t.Kind == lex.Number || t.Kind == lex.String || t.Text == "(" || isName(t) || isSign(t)
}

// isSign tells whether a token is one of the operators that stand ahead of what they work on.
func isSign(t lex.Token) bool {
	switch t.Text {
	case "-", "!", "^", "*", "&", "+":
		return true
	}
	return false
}
