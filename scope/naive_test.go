package scope_test

import (
	"maps"
	"math/rand"
	"slices"
	"strconv"

	"modcert/api"
	"modcert/lexer"
	"modcert/sample"
)

// names are the names that a naive resolution knows, and the module.
type names struct {
	m      api.Module
	index  int
	types  []string // type variables
	locals []string
}

func (n names) pathOf(alias string) (string, api.Errno) {
	for _, i := range n.m.Imports {
		if i.Alias == alias {
			return i.Path, api.OK
		}
	}
	return "", api.ErrNotFound
}

func (n names) declaredAt(name string) int {
	return slices.IndexFunc(n.m.Decls, func(d api.Decl) bool { return d.Name == name })
}

// naive resolves a source tree that has its form as the chapter says it.
func naive(m api.Module) (api.Module, int, api.Errno) {
	result := api.Module{Path: m.Path, Imports: m.Imports}
	for i, d := range m.Decls {
		d, err := names{m: m, index: i}.decl(d)
		if err != api.OK {
			return api.Module{}, i, err
		}
		result.Decls = append(result.Decls, d)
	}
	return result, 0, api.OK
}

func (n names) decl(d api.Decl) (api.Decl, api.Errno) {
	var err api.Errno
	d.Params = slices.Clone(d.Params)
	switch d.Kind {
	case api.DeclUse:
		d.Module, err = n.pathOf(d.Module)
		return d, err
	case api.DeclValue:
		for i := range d.Params {
			if d.Params[i].Bound, err = n.typed(d.Params[i].Bound); err != api.OK {
				return d, err
			}
			n.types = append(slices.Clone(n.types), d.Params[i].Name)
		}
		if d.Type, err = n.typed(d.Type); err == api.OK {
			d.Expr, err = n.expr(d.Expr)
		}
		return d, err
	}
	for _, param := range d.Params {
		n.types = append(slices.Clone(n.types), param.Name)
	}
	for _, t := range []*api.Type{&d.Lower, &d.Upper, &d.Type} {
		if *t, err = n.typed(*t); err != api.OK {
			return d, err
		}
	}
	return d, api.OK
}

func (n names) typed(t api.Type) (api.Type, api.Errno) {
	var err api.Errno
	if t.Kind == api.TypeRef {
		switch {
		case t.Module != "":
			t.Module, err = n.pathOf(t.Module)
		case slices.Contains(n.types, t.Name) && len(t.Args) > 0:
			err = api.ErrArity
		case slices.Contains(n.types, t.Name):
			t.Kind = api.TypeVar
		case n.declaredAt(t.Name) < 0:
			err = api.ErrNotFound
		default:
			t.Module = n.m.Path
		}
	}
	t.Args, t.Fields = slices.Clone(t.Args), slices.Clone(t.Fields)
	for i := 0; i < len(t.Args) && err == api.OK; i++ {
		t.Args[i], err = n.typed(t.Args[i])
	}
	for i := 0; i < len(t.Fields) && err == api.OK; i++ {
		t.Fields[i].Type, err = n.typed(t.Fields[i].Type)
	}
	return t, err
}

// name resolves the name of a value or a local variable.
func (n names) name(e api.Expr) (api.Expr, api.Errno) {
	if e.Module != "" {
		path, err := n.pathOf(e.Module)
		e.Module = path
		return e, err
	}
	at := n.declaredAt(e.Name)
	switch {
	case slices.Contains(n.locals, e.Name) && e.Kind == api.ExprValue:
		return e, api.ErrArity
	case slices.Contains(n.locals, e.Name):
		return e, api.OK
	case at < 0:
		return e, api.ErrNotFound
	case at >= n.index:
		return e, api.ErrLoop
	}
	e.Kind, e.Module = api.ExprValue, n.m.Path
	return e, api.OK
}

func (n names) expr(e api.Expr) (api.Expr, api.Errno) {
	var err api.Errno
	if e.Kind == api.ExprLocal || e.Kind == api.ExprValue {
		e, err = n.name(e)
	}
	e.Types, e.Labels, e.Kids = slices.Clone(e.Types), slices.Clone(e.Labels), slices.Clone(e.Kids)
	for i := 0; i < len(e.Types) && err == api.OK; i++ {
		e.Types[i], err = n.typed(e.Types[i])
	}
	for i := 0; i < len(e.Labels) && err == api.OK; i++ {
		e.Labels[i].Type, err = n.typed(e.Labels[i].Type)
	}
	for i := 0; i < len(e.Kids) && err == api.OK; i++ {
		inside := n
		inside.locals = append(slices.Clone(n.locals), bound(e, i)...)
		e.Kids[i], err = inside.expr(e.Kids[i])
	}
	return e, err
}

// bound returns the local variables that a kid of an expression has, and the expression has not.
func bound(e api.Expr, i int) []string {
	var list []string
	switch e.Kind {
	case api.ExprLet:
		if i == 1 {
			list = append(list, e.Name)
		}
	case api.ExprMatch:
		if i > 0 {
			list = append(list, e.Labels[i-1].Variable)
		}
	case api.ExprFold:
		if i == 2 {
			list = append(list, e.Name, e.Text)
		}
	case api.ExprFunc:
		for _, label := range e.Labels {
			if i == len(e.Kids)-1 {
				list = append(list, label.Name)
			}
		}
	}
	return list
}

// unresolved says how a random module looks: how many of its names are wrong, in a thousand.
type unresolved struct {
	r     *rand.Rand
	wrong int
}

func (u unresolved) rarely() bool {
	return u.r.Intn(1000) < u.wrong
}

// module returns a source tree whose names have meanings, but for some that are wrong.
func (u unresolved) module() api.Module {
	m := sample.Choice(u.r.Intn).Module(3)
	for i := range m.Decls {
		u.decl(m, i)
	}
	return m
}

// decl gives the names of a declaration meanings.
func (u unresolved) decl(m api.Module, index int) {
	d := &m.Decls[index]
	if len(m.Imports) == 0 && d.Kind == api.DeclUse {
		*d = api.Decl{Name: d.Name, Kind: api.DeclType}
		if lexer.IsName(d.Name) {
			d.Kind = api.DeclValue
		}
	}
	if d.Kind == api.DeclUse {
		d.Module = u.alias(m)
		return
	}
	var types, values []string
	for i, other := range m.Decls {
		if lexer.IsType(other.Name) {
			types = append(types, other.Name)
		} else if i < index || u.rarely() {
			values = append(values, other.Name)
		}
	}
	for i := range d.Params {
		u.typed(m, types, &d.Params[i].Bound)
		types = append(types, d.Params[i].Name)
	}
	transparent := same(d.Lower, d.Type) && same(d.Upper, d.Type)
	u.typed(m, types, &d.Type)
	if d.Lower, d.Upper = d.Type, d.Type; !transparent {
		d.Lower, d.Upper = api.Type{Kind: api.TypeNone}, api.Type{Kind: api.TypeAny}
	}
	if d.Kind == api.DeclValue {
		d.Lower, d.Upper = api.Type{}, api.Type{}
	}
	u.expr(m, types, values, nil, &d.Expr)
	*d = duplicate(*d)
}

// alias returns the alias of an import, or nothing if there is none.
func (u unresolved) alias(m api.Module) string {
	switch {
	case u.rarely():
		return "wrong"
	case len(m.Imports) == 0:
		return ""
	}
	return m.Imports[u.r.Intn(len(m.Imports))].Alias
}

func (u unresolved) typed(m api.Module, types []string, t *api.Type) {
	if t.Kind == api.TypeRef {
		t.Module = ""
		if u.r.Intn(2) == 0 {
			t.Module = u.alias(m)
		}
		switch {
		case t.Module != "":
		case len(types) == 0:
			*t = api.Type{Kind: api.TypeInt}
		default:
			t.Name = types[u.r.Intn(len(types))]
			if lexer.IsType(t.Name) && t.Name[0] != 'T' && !u.rarely() {
				t.Args = nil
			}
		}
		if u.rarely() && t.Kind == api.TypeRef {
			t.Name = []string{"Wrong", "P0", "X1", "T1"}[u.r.Intn(4)]
		}
	}
	for i := range t.Args {
		u.typed(m, types, &t.Args[i])
	}
	for i := range t.Fields {
		u.typed(m, types, &t.Fields[i].Type)
	}
}

func (u unresolved) expr(m api.Module, types, values, locals []string, e *api.Expr) {
	if e.Kind == api.ExprLocal || e.Kind == api.ExprValue {
		known := map[string]bool{}
		for _, name := range append(slices.Clone(values), locals...) {
			known[name] = true
		}
		if e.Kind == api.ExprValue {
			e.Module = u.alias(m)
			if u.r.Intn(2) == 0 && len(e.Types) > 0 {
				e.Module = ""
			}
			for _, name := range locals {
				if !u.rarely() {
					delete(known, name)
				}
			}
		}
		list := slices.Sorted(maps.Keys(known))
		switch {
		case e.Module != "":
		case len(list) == 0 || e.Kind == api.ExprValue && len(e.Types) == 0:
			*e = api.Expr{Kind: api.ExprInt, Number: 1}
		default:
			e.Name = list[u.r.Intn(len(list))]
		}
		if u.rarely() && e.Kind != api.ExprInt {
			e.Name = []string{"wrong", "a", "x", "v" + strconv.Itoa(u.r.Intn(6))}[u.r.Intn(4)]
		}
	}
	for i := range e.Types {
		u.typed(m, types, &e.Types[i])
	}
	for i := range e.Labels {
		u.typed(m, types, &e.Labels[i].Type)
	}
	for i := range e.Kids {
		u.expr(m, types, values, append(slices.Clone(locals), bound(*e, i)...), &e.Kids[i])
	}
}
