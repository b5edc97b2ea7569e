package scope

import "modcert/api"

// changes are the functions that change the names of a tree: the module of a facade, a variable or a reference to a type, and a local variable or a value. They are passed whole nodes with the scopes in which these stand, and leave the parts of the nodes as they are.
type changes struct {
	facade func(module string) string
	typed  func(s *scope, t api.Type) api.Type
	value  func(s *scope, e api.Expr) api.Expr
}

// decl returns a declaration with changed names. Everything is visited in the order in which errors are looked for: a node, and then its parts.
func (c changes) decl(s *scope, d api.Decl) api.Decl {
	if d.Kind == api.DeclUse {
		d.Module = c.facade(d.Module)
	}
	params := d.Params
	d.Params = nil
	for _, param := range params {
		param.Bound = c.tree(s, param.Bound)
		d.Params = append(d.Params, param)
		s = s.with(isVariable, param.Name)
	}
	d.Lower = c.tree(s, d.Lower)
	d.Upper = c.tree(s, d.Upper)
	d.Type = c.tree(s, d.Type)
	d.Expr = c.expr(s, d.Expr)
	return d
}

// tree returns a type with changed names.
func (c changes) tree(s *scope, t api.Type) api.Type {
	if t.Kind == api.TypeVar || t.Kind == api.TypeRef {
		t = c.typed(s, t)
	}
	args, fields := t.Args, t.Fields
	t.Args, t.Fields = nil, nil
	for _, argument := range args {
		t.Args = append(t.Args, c.tree(s, argument))
	}
	for _, field := range fields {
		field.Type = c.tree(s, field.Type)
		t.Fields = append(t.Fields, field)
	}
	return t
}

// expr returns an expression with changed names.
func (c changes) expr(s *scope, e api.Expr) api.Expr {
	if e.Kind == api.ExprLocal || e.Kind == api.ExprValue {
		e = c.value(s, e)
	}
	types, labels, kids := e.Types, e.Labels, e.Kids
	e.Types, e.Labels, e.Kids = nil, nil, nil
	for _, t := range types {
		e.Types = append(e.Types, c.tree(s, t))
	}
	for _, label := range labels {
		label.Type = c.tree(s, label.Type)
		e.Labels = append(e.Labels, label)
	}
	// The scope of a kid depends on the labels and on the number of kids.
	whole := e
	whole.Kids = kids
	for i, kid := range kids {
		e.Kids = append(e.Kids, c.expr(s.ofKid(whole, i), kid))
	}
	return e
}

// contains reports whether one of three functions is true for a part of a declaration: the module of a facade, a variable or a reference to a type, or a local variable or a value. All parts are visited.
func contains(d api.Decl, facade func(module string) bool, typed func(t api.Type) bool, value func(e api.Expr) bool) bool {
	found := false
	look := changes{
		facade: func(module string) string {
			found = facade(module) || found
			return module
		},
		typed: func(_ *scope, t api.Type) api.Type {
			found = typed(t) || found
			return t
		},
		value: func(_ *scope, e api.Expr) api.Expr {
			found = value(e) || found
			return e
		},
	}
	look.decl(nil, d)
	return found
}
