package parse

import (
	"scarf/api"
	"scarf/lex"
)

func (p *parser) block() api.Node {
	return node(api.KBlock, "", p.braces(p.statement)...)
}

func (p *parser) statement() api.Node {
	switch p.next().Text {
	case "var":
		return p.variable()
	case "{":
		return p.block()
	case "if":
		return p.branch()
	case "for":
		return p.loop()
	case "return":
		return p.result()
	case "break":
		return p.jump(api.KBreak)
	case "continue":
		return p.jump(api.KContinue)
	}
	return p.simple()
}

func (p *parser) branch() api.Node {
	p.begin(p.is("if"))
	condition := p.expression()
	then, other := p.block(), none()
	if p.is("else") {
		p.take()
		other = p.otherwise()
	}
	return node(api.KIf, "", condition, then, other)
}

// otherwise reads what stands behind an else.
func (p *parser) otherwise() api.Node {
	if !p.is("if") {
		return p.block()
	}
	return p.deeper(1, p.branch)
}

func (p *parser) loop() api.Node {
	p.begin(p.is("for"))
	condition := none()
	if !p.is("{") {
		condition = p.expression()
	}
	return node(api.KFor, "", condition, p.block())
}

func (p *parser) result() api.Node {
	p.begin(p.is("return"))
	var l []api.Node
	if p.next().Kind != lex.End && !p.is("}") {
		l = append(l, p.expression())
	}
	for len(l) > 0 && p.is(",") {
		p.take()
		l = append(l, p.expression())
	}
	return node(api.KReturn, "", l...)
}

func (p *parser) jump(kind int) api.Node {
	p.begin(true)
	return node(kind, "")
}

// simple reads a statement that begins with an expression; only what stands behind that tells what it must be.
func (p *parser) simple() api.Node {
	n := p.expression()
	op := p.next().Text
	switch op {
	case ":=":
		p.must(n.Kind == api.KName)
		p.take()
		return node(api.KAssign, op, n, p.expression())
	case "=", "+=", "-=", "*=", "/=", "%=":
		p.must(isPlace(n))
		p.take()
		return node(api.KAssign, op, n, p.expression())
	case "++", "--":
		p.must(isPlace(n))
		p.take()
		return node(api.KInc, op, n)
	}
	p.must(n.Kind == api.KCall)
	return node(api.KDo, "", n)
}

// isPlace tells whether something may be assigned to an expression.
func isPlace(n api.Node) bool {
	return n.Kind == api.KName || n.Kind == api.KIndex || n.Kind == api.KDot || n.Kind == api.KUnary && n.Text == "*"
}
