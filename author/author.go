// Package author makes modules for the tests of other packages: resolved modules (layer 10) which are right (layer 13) for the most part, and others in which something is wrong.
package author

import (
	"slices"
	"strconv"

	"modcert/api"
	"modcert/environ"
	"modcert/extract"
	"modcert/sample"
	"modcert/syntax"
)

// author knows what a declaration of a module can use.
type author struct {
	choose  sample.Choice
	path    string  // of the module
	env     api.Env // with what was declared before
	types   []api.Use
	values  []api.Use
	context api.Context
}

// Module returns a resolved module that imports the modules of a valid environment without its path. It is right in this environment for the most part.
func Module(choose sample.Choice, env api.Env, path string) api.Module {
	m := api.Module{Path: path}
	for i, other := range env {
		m.Imports = append(m.Imports, api.Import{Path: other.Path, Alias: "m" + strconv.Itoa(i)})
	}
	for i := range choose(4) {
		m.Decls = append(m.Decls, knowing(choose, env, m).typeDecl("T"+strconv.Itoa(i)))
	}
	for i := range choose(3) {
		if d, ok := knowing(choose, env, m).facade(strconv.Itoa(i)); ok {
			m.Decls = append(m.Decls, d)
		}
	}
	for i := range 1 + choose(4) {
		if d, ok := knowing(choose, env, m).valueDecl("v" + strconv.Itoa(i)); ok {
			m.Decls = append(m.Decls, d)
		}
	}
	for i := range m.Decls {
		publish(choose, m, &m.Decls[i])
	}
	return m
}

// knowing returns the author of the next declaration of a module.
func knowing(choose sample.Choice, env api.Env, m api.Module) author {
	a := author{choose: choose, path: m.Path, env: env}
	m.Decls = slices.Clone(m.Decls)
	for i := range m.Decls {
		d := &m.Decls[i]
		if d.Exported = true; d.Kind == api.DeclType {
			d.Lower, d.Upper = d.Type, d.Type
		}
	}
	if i, err := extract.Interface(m); err == api.OK {
		a.env = environ.Add(env, i)
	}
	for _, i := range a.env {
		for _, name := range environ.Exports(i) {
			if use := (api.Use{Module: i.Path, Name: name}); syntax.Variable(name) {
				a.types = append(a.types, use)
			} else {
				a.values = append(a.values, use)
			}
		}
	}
	return a
}

// within returns an author who knows some more variables of types.
func (a author) within(params ...api.Param) author {
	a.context = append(slices.Clone(a.context), params...)
	return a
}

// typeDecl returns a type, which may be abstract.
func (a author) typeDecl(name string) api.Decl {
	d := api.Decl{Kind: api.DeclType, Name: name}
	for i := range a.choose(3) {
		d.Params = append(d.Params, api.Param{Name: "P" + strconv.Itoa(i), Variance: []int{api.Invariant, api.Covariant, api.Contravariant}[a.choose(3)]})
	}
	a = a.within(d.Params...)
	d.Type = a.typed(2)
	d.Lower, d.Upper = d.Type, d.Type
	switch a.choose(5) {
	case 0:
		d.Lower, d.Upper = api.Type{Kind: api.TypeNone}, a.moved(d.Type, true, 2)
	case 1:
		d.Lower, d.Upper = a.moved(d.Type, false, 2), api.Type{}
	case 2:
		d.Lower, d.Upper = a.moved(d.Type, false, 2), a.moved(d.Type, true, 2)
	}
	return d
}

// facade returns a facade of what another module exports.
func (a author) facade(number string) (api.Decl, bool) {
	list := append(slices.Clone(a.types), a.values...)
	list = slices.DeleteFunc(list, func(use api.Use) bool { return use.Module == a.path })
	if len(list) == 0 {
		return api.Decl{}, false
	}
	use := list[a.choose(len(list))]
	d := api.Decl{Kind: api.DeclUse, Name: "w" + number, Module: use.Module, Target: use.Name}
	if syntax.Variable(use.Name) {
		d.Name = "U" + number
	}
	return d, true
}

// valueDecl returns a value, which may have variables, if one of some types has a value.
func (a author) valueDecl(name string) (api.Decl, bool) {
	d := api.Decl{Kind: api.DeclValue, Name: name}
	for i := range a.choose(4) - 1 {
		param := api.Param{Name: "X" + strconv.Itoa(i), Bound: a.typed(1)}
		d.Params = append(d.Params, param)
		a = a.within(param)
	}
	for range 4 {
		d.Type = a.typed(2)
		if e, ok := a.expr(nil, d.Type, 3); ok {
			d.Expr = e
			return d, true
		}
	}
	return api.Decl{}, false
}

// publish exports a declaration, if it does not show a private type. Types must be declared before the values and types that mention them.
func publish(choose sample.Choice, m api.Module, d *api.Decl) {
	types := []api.Type{d.Lower, d.Upper}
	if d.Kind == api.DeclValue {
		types = []api.Type{d.Type}
		for _, param := range d.Params {
			types = append(types, param.Bound)
		}
	}
	transparent := syntax.EqualTypes(d.Lower, d.Type) && syntax.EqualTypes(d.Upper, d.Type)
	if d.Exported = choose(4) > 0; d.Kind == api.DeclType && !transparent {
		d.Exported = true
	}
	private := func(use api.Use) bool {
		return use.Module == m.Path && slices.ContainsFunc(m.Decls, func(d api.Decl) bool { return d.Name == use.Name && !d.Exported })
	}
	for _, t := range types {
		if slices.ContainsFunc(syntax.Mentions(t), private) {
			d.Exported = false
		}
	}
	if d.Exported && choose(4) == 0 {
		d.Deprecated, d.Note = true, "use another one"
	}
}
