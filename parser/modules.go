package parser

import (
	"strings"

	"modcert/api"
	"modcert/lexer"
	"modcert/syntax"
)

func (p *parser) module() *api.Module {
	p.expect("module")
	m := &api.Module{Path: p.path()}
	for p.accept("import") {
		path := p.path()
		p.expect("as")
		m.Imports = append(m.Imports, api.Import{Path: path, Alias: p.name()})
	}
	for p.tokens[0].Kind != api.TokenEnd {
		p.starts = append(p.starts, p.tokens[0].Offset)
		m.Decls = append(m.Decls, p.decl())
	}
	return m
}

func (p *parser) path() string {
	first := p.read(api.TokenName)
	segments := []string{first.Text}
	for p.accept("/") {
		segments = append(segments, p.name())
	}
	path := strings.Join(segments, "/")
	if !lexer.IsPath(path) {
		panic(failure{first.Offset, api.ErrName})
	}
	return path
}

func (p *parser) decl() api.Decl {
	var d api.Decl
	d.Exported = p.accept("export")
	if d.Exported && p.accept("deprecated") {
		d.Deprecated, d.Note = true, p.read(api.TokenText).Text
	}
	switch {
	case p.accept("type"):
		p.typeDecl(&d)
	case p.accept("let"):
		p.letDecl(&d)
	default:
		p.expect("use")
		p.useDecl(&d)
	}
	return d
}

func (p *parser) typeDecl(d *api.Decl) {
	d.Kind, d.Name = api.DeclType, p.read(api.TokenType).Text
	p.params(d, p.variant)
	lower, upper := p.bound(">:"), p.bound("<:")
	p.expect("=")
	d.Type = *p.typeTree()
	switch {
	case lower == nil && upper == nil:
		lower, upper = &d.Type, &d.Type
	case lower == nil:
		lower = &api.Type{Kind: api.TypeNone}
	case upper == nil:
		upper = &api.Type{Kind: api.TypeAny}
	}
	// The bounds of a transparent type must not share the memory of its definition.
	d.Lower, d.Upper = syntax.Substitute(*lower, nil, nil), syntax.Substitute(*upper, nil, nil)
}

// params reads the parameters of a type or the variables of a value, if there are any.
func (p *parser) params(d *api.Decl, param func() api.Param) {
	if p.accept("[") {
		p.separated("]", func() { d.Params = append(d.Params, param()) })
	}
}

// bound reads a bound behind a symbol, if there is one.
func (p *parser) bound(symbol string) *api.Type {
	if p.accept(symbol) {
		return p.typeTree()
	}
	return nil
}

func (p *parser) variant() api.Param {
	var x api.Param
	switch {
	case p.accept("+"):
		x.Variance = api.Covariant
	case p.accept("-"):
		x.Variance = api.Contravariant
	default:
		p.expect("=")
		x.Variance = api.Invariant
	}
	x.Name = p.read(api.TokenType).Text
	return x
}

func (p *parser) bounded() api.Param {
	x := api.Param{Name: p.read(api.TokenType).Text, Bound: api.Type{Kind: api.TypeAny}}
	if t := p.bound("<:"); t != nil {
		x.Bound = *t
	}
	return x
}

func (p *parser) letDecl(d *api.Decl) {
	d.Kind, d.Name = api.DeclValue, p.name()
	p.params(d, p.bounded)
	p.expect(":")
	d.Type = *p.typeTree()
	p.expect("=")
	d.Expr = *p.expr()
}

func (p *parser) useDecl(d *api.Decl) {
	d.Kind, d.Module = api.DeclUse, p.name()
	p.expect("::")
	d.Target = p.anyName()
	p.expect("as")
	d.Name = p.anyName()
}

// anyName reads a name of a value or of a type.
func (p *parser) anyName() string {
	if p.tokens[0].Kind == api.TokenType {
		return p.take().Text
	}
	return p.name()
}
