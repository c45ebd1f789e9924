package parse

import (
	"slices"

	"scarf/api"
	"scarf/lex"
)

func (p *parser) file() api.Node {
	var items []api.Node
	read := func(words ...string) { // remarks stand anywhere among them
		for p.next().Kind == lex.Remark || slices.Contains(words, p.next().Text) {
			items = append(items, p.item(p.declaration))
		}
	}
	read()
	p.must(p.is("package"))
	items = append(items, p.item(p.declaration))
	read("import")
	read("const", "var", "type", "func")
	p.must(p.done())
	return node(api.KFile, "", items...)
}

// item reads a remark, or what read reads and what is behind that.
func (p *parser) item(read func() api.Node) api.Node {
	if p.next().Kind == lex.Remark {
		return node(api.KNote, p.begin(true).Text)
	}
	n := read()
	n.Trail = p.over()
	return n
}

// over takes an item's end, and tells the remark that stands behind it on its line.
func (p *parser) over() string {
	if p.is("}") {
		return ""
	}
	p.must(p.next().Kind == lex.End)
	p.take()
	if t := p.next(); t.Kind == lex.Remark && !t.First {
		return p.take().Text
	}
	return ""
}

// braces reads the items that stand between them.
func (p *parser) braces(read func() api.Node) []api.Node {
	var items []api.Node
	item := func() api.Node { return p.item(read) }
	p.begin(p.is("{"))
	for !p.is("}") {
		items = append(items, p.deeper(1, item))
	}
	p.want("}")
	return items
}

// list reads what stands between parentheses, a comma behind each, at will behind the last.
func (p *parser) list(read func() api.Node) []api.Node {
	var l []api.Node
	p.want("(")
	for !p.is(")") {
		l = append(l, p.deeper(1, read))
		if !p.is(")") {
			p.want(",")
		}
	}
	p.want(")")
	return l
}

// declaration reads an item of a file; whether it may stand where it does is asked ahead of it.
func (p *parser) declaration() api.Node {
	switch p.next().Text {
	case "package":
		p.take()
		return node(api.KPackage, p.name())
	case "import":
		p.take()
		p.must(p.next().Kind == lex.String)
		return node(api.KImport, p.take().Text)
	case "const":
		p.take()
		name := p.name()
		p.want("=")
		return node(api.KConst, name, p.expression())
	case "type":
		p.take()
		name := p.name()
		return node(api.KType, name, p.typ())
	case "var":
		return p.variable()
	}
	return p.function()
}

func (p *parser) variable() api.Node {
	p.begin(p.is("var"))
	name, typ, value := p.name(), none(), none()
	if !p.is("=") {
		typ = p.typ()
	}
	if p.is("=") {
		p.take()
		value = p.expression()
	}
	return node(api.KVar, name, typ, value)
}

func (p *parser) function() api.Node {
	p.begin(p.is("func"))
	receiver, result := none(), none()
	if p.is("(") {
		p.take()
		receiver = p.parameter()
		p.want(")")
	}
	name := p.name()
	params := node(api.KParams, "", p.list(p.parameter)...)
	if !p.is("{") {
		result = p.typ()
	}
	return node(api.KFunc, name, receiver, params, result, p.block())
}
