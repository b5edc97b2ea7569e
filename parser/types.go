package parser

import "modcert/api"

func (p *parser) typeTree() *api.Type {
	if kind, ok := basic(p.word()); ok {
		p.take()
		return &api.Type{Kind: kind}
	}
	switch {
	case p.accept("list"):
		p.expect("[")
		element := p.typeTree()
		p.expect("]")
		return &api.Type{Kind: api.TypeList, Args: []api.Type{*element}}
	case p.accept("{"):
		return &api.Type{Kind: api.TypeRecord, Fields: fields(p.parts(",", "}", p.field))}
	case p.accept("<"):
		return &api.Type{Kind: api.TypeVariant, Fields: fields(p.parts("|", ">", p.field))}
	case p.accept("fn"):
		p.expect("(")
		params := fields(p.parts(",", ")", p.param))
		return &api.Type{Kind: api.TypeFunc, Fields: params, Args: []api.Type{*p.typeTree()}}
	}
	return p.reference()
}

// basic returns the kind of a type that is a single keyword.
func basic(word string) (int, bool) {
	switch word {
	case "any":
		return api.TypeAny, true
	case "none":
		return api.TypeNone, true
	case "int":
		return api.TypeInt, true
	case "bool":
		return api.TypeBool, true
	case "text":
		return api.TypeText, true
	}
	return 0, false
}

func (p *parser) reference() *api.Type {
	t := &api.Type{Kind: api.TypeRef}
	if p.tokens[0].Kind == api.TokenName {
		t.Module = p.name()
		p.expect("::")
	}
	t.Name = p.read(api.TokenType).Text
	t.Args = p.args()
	return t
}

// args reads the arguments of a type or a value, if there are any.
func (p *parser) args() []api.Type {
	var list []api.Type
	if p.accept("[") {
		p.separated("]", func() { list = append(list, *p.typeTree()) })
	}
	return list
}

func (p *parser) field(x *part) {
	p.expect(":")
	x.label.Type = *p.typeTree()
}

func (p *parser) param(x *part) {
	x.label.Optional = p.accept("?")
	p.field(x)
}

// fields returns the parts of a type as its fields.
func fields(parts []part) []api.Field {
	var list []api.Field
	for _, x := range parts {
		list = append(list, api.Field{Name: x.label.Name, Type: x.label.Type, Optional: x.label.Optional})
	}
	return list
}
