package parse

import (
	"scarf/api"
	"scarf/lex"
)

func (p *parser) parameter() api.Node {
	return p.typed(api.KParam)
}

func (p *parser) field() api.Node {
	return p.typed(api.KField)
}

// typed reads a node of that kind: a name and its type.
func (p *parser) typed(kind int) api.Node {
	name := p.begin(isName(p.next()))
	return node(kind, name.Text, p.typ())
}

func (p *parser) typ() api.Node {
	t := p.begin(beginsType(p.next()))
	switch t.Text {
	case "*":
		return node(api.KPtr, "", p.deeper(1, p.typ))
	case "[":
		p.want("]")
		return node(api.KSlice, "", p.deeper(1, p.typ))
	case "map":
		p.want("[")
		key := p.deeper(1, p.typ)
		p.want("]")
		return node(api.KMap, "", key, p.deeper(1, p.typ))
	case "struct":
		return node(api.KStruct, "", p.braces(p.field)...)
	}
	return node(api.KName, t.Text)
}

func beginsType(t lex.Token) bool {
	switch t.Text {
	case "*", "[", "map", "struct":
		return true
	}
	return isName(t)
}
