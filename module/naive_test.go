package module_test

import (
	"cmp"
	"maps"
	"slices"
	"strconv"

	"modcert/api"
	"modcert/check"
	"modcert/environ"
	"modcert/lexer"
	"modcert/subtype"
	"modcert/syntax"
	"modcert/wellformed"
)

// naiveAdd returns an environment with an interface.
func naiveAdd(env api.Env, i api.Interface) api.Env {
	env = append(naiveWithout(env, i.Path), i)
	slices.SortFunc(env, func(a, b api.Interface) int { return cmp.Compare(a.Path, b.Path) })
	return env
}

func naiveWithout(env api.Env, path string) api.Env {
	return slices.DeleteFunc(slices.Clone(env), func(i api.Interface) bool { return i.Path == path })
}

// numbered returns a type in which variables have the numbers of some parameters.
func numbered(params []api.Param, t api.Type) api.Type {
	t = duplicate(t)
	for k, param := range params {
		if t.Kind == api.TypeVar && t.Name == param.Name {
			return variable("#" + strconv.Itoa(k))
		}
	}
	for i := range t.Args {
		t.Args[i] = numbered(params, t.Args[i])
	}
	for i := range t.Fields {
		t.Fields[i].Type = numbered(params, t.Fields[i].Type)
	}
	return t
}

// naiveInterface returns the interface of a module that is resolved.
func naiveInterface(m api.Module) api.Interface {
	result := api.Interface{Path: m.Path}
	decls := slices.Clone(m.Decls)
	slices.SortFunc(decls, func(a, b api.Decl) int { return cmp.Compare(a.Name, b.Name) })
	for _, d := range decls {
		if !d.Exported {
			continue
		}
		var params []api.Param
		for k, param := range d.Params {
			params = append(params, api.Param{Name: "#" + strconv.Itoa(k), Variance: param.Variance, Bound: numbered(d.Params, param.Bound)})
		}
		switch d.Kind {
		case api.DeclType:
			result.Types = append(result.Types, api.TypeEntry{Name: d.Name, Params: params, Lower: numbered(d.Params, d.Lower), Upper: numbered(d.Params, d.Upper)})
		case api.DeclValue:
			result.Values = append(result.Values, api.ValueEntry{Name: d.Name, Params: params, Type: numbered(d.Params, d.Type)})
		case api.DeclUse:
			result.Aliases = append(result.Aliases, api.AliasEntry{Name: d.Name, Module: d.Module, Target: d.Target})
		}
		if d.Deprecated {
			result.Deprecated = append(result.Deprecated, api.Deprecation{Name: d.Name, Note: d.Note})
		}
	}
	return result
}

// naiveView returns the interface of a module that exports everything, and (if revealed) the definitions of its types.
func naiveView(m api.Module, revealed bool) api.Interface {
	m = duplicate(m)
	for i, d := range m.Decls {
		d.Exported, d.Deprecated = true, false
		if revealed && d.Kind == api.DeclType {
			d.Lower, d.Upper = d.Type, d.Type
		}
		m.Decls[i] = d
	}
	return naiveInterface(m)
}

// uses adds what a declaration mentions: references to types, and values.
func uses(d api.Decl) (types, values []api.Use) {
	var typed func(t api.Type)
	typed = func(t api.Type) {
		if t.Kind == api.TypeRef {
			types = append(types, api.Use{Module: t.Module, Name: t.Name})
		}
		for _, part := range t.Args {
			typed(part)
		}
		for _, part := range t.Fields {
			typed(part.Type)
		}
	}
	var valued func(e api.Expr)
	valued = func(e api.Expr) {
		if e.Kind == api.ExprValue {
			values = append(values, api.Use{Module: e.Module, Name: e.Name})
		}
		for _, t := range e.Types {
			typed(t)
		}
		for _, label := range e.Labels {
			typed(label.Type)
		}
		for _, kid := range e.Kids {
			valued(kid)
		}
	}
	for _, param := range d.Params {
		typed(param.Bound)
	}
	typed(d.Lower)
	typed(d.Upper)
	typed(d.Type)
	valued(d.Expr)
	return types, values
}

// modules returns the modules that a declaration mentions.
func modules(d api.Decl) []string {
	types, values := uses(d)
	set := map[string]bool{}
	for _, use := range append(types, values...) {
		set[use.Module] = true
	}
	if d.Kind == api.DeclUse {
		set[d.Module] = true
	}
	return slices.Sorted(maps.Keys(set))
}

// naive returns the diagnostics of a module as the chapter says it.
func naive(env api.Env, m api.Module) []api.Diagnostic {
	env = naiveWithout(env, m.Path)
	if i, err := syntax.CheckModule(m); err != api.OK {
		return []api.Diagnostic{{Decl: i, Error: err}}
	}
	for i, d := range m.Decls {
		for _, path := range modules(d) {
			if !lexer.IsPath(path) || d.Kind == api.DeclUse && path == m.Path {
				return []api.Diagnostic{{Decl: i, Error: api.ErrArg}}
			}
		}
	}
	if found := naiveImports(env, m); len(found) > 0 {
		return found
	}
	for _, step := range []func(env api.Env, m api.Module, d api.Decl) api.Errno{naiveSignature, naiveBounds, naiveBoundsForOthers, naiveExpression} {
		var found []api.Diagnostic
		for i, d := range m.Decls {
			if err := step(env, m, d); err != api.OK {
				found = append(found, api.Diagnostic{Decl: i, Error: err, Name: d.Name})
			}
		}
		if len(found) > 0 {
			return found
		}
	}
	return nil
}

func naiveImports(env api.Env, m api.Module) []api.Diagnostic {
	var found []api.Diagnostic
	imported := []string{m.Path}
	for _, i := range m.Imports {
		imported = append(imported, i.Path)
		if !slices.ContainsFunc(env, func(other api.Interface) bool { return other.Path == i.Path }) {
			found = append(found, api.Diagnostic{Decl: -1, Error: api.ErrNotFound, Name: i.Path})
		}
	}
	for i, d := range m.Decls {
		for _, path := range modules(d) {
			if !slices.Contains(imported, path) {
				found = append(found, api.Diagnostic{Decl: i, Error: api.ErrNotFound, Name: path})
				break
			}
		}
	}
	return found
}

func naiveSignature(env api.Env, m api.Module, d api.Decl) api.Errno {
	if d.Kind == api.DeclUse {
		_, _, typeErr := environ.Type(env, d.Module, d.Target)
		_, _, valueErr := environ.Value(env, d.Module, d.Target)
		if lexer.IsType(d.Target) {
			return typeErr
		}
		return valueErr
	}
	if err := wellformed.Entry(naiveAdd(env, naiveView(m, true)), m.Path, d.Name); err != api.OK {
		return err
	}
	mentioned := api.Decl{Type: d.Type, Params: d.Params}
	if d.Kind == api.DeclType {
		if err := wellformed.Entry(naiveAdd(env, naiveView(m, false)), m.Path, d.Name); err != api.OK {
			return err
		}
		if !d.Exported && (!same(d.Lower, d.Type) || !same(d.Upper, d.Type)) {
			return api.ErrPrivate
		}
		mentioned = api.Decl{Lower: d.Lower, Upper: d.Upper}
	}
	types, _ := uses(mentioned)
	for _, use := range types {
		for _, other := range m.Decls {
			if d.Exported && use.Module == m.Path && use.Name == other.Name && !other.Exported {
				return api.ErrPrivate
			}
		}
	}
	return api.OK
}

// freely returns the context of the parameters of a type.
func freely(d api.Decl) api.Context {
	var context api.Context
	for _, param := range d.Params {
		context = append(context, api.Param{Name: param.Name, Bound: anything})
	}
	return context
}

func naiveBounds(env api.Env, m api.Module, d api.Decl) api.Errno {
	inside := naiveAdd(env, naiveView(m, true))
	if d.Kind == api.DeclType && !(subtype.Is(inside, freely(d), d.Lower, d.Type) && subtype.Is(inside, freely(d), d.Type, d.Upper)) {
		return api.ErrBound
	}
	return api.OK
}

func naiveBoundsForOthers(env api.Env, m api.Module, d api.Decl) api.Errno {
	outside := naiveAdd(env, naiveInterface(m))
	if d.Kind == api.DeclType && d.Exported && !subtype.Is(outside, freely(d), d.Lower, d.Upper) {
		return api.ErrBound
	}
	return api.OK
}

func naiveExpression(env api.Env, m api.Module, d api.Decl) api.Errno {
	if d.Kind != api.DeclValue {
		return api.OK
	}
	var context api.Context
	for _, param := range d.Params {
		context = append(context, api.Param{Name: param.Name, Bound: param.Bound})
	}
	return check.Against(naiveAdd(env, naiveView(m, true)), context, nil, d.Expr, d.Type)
}
