package module

import (
	"maps"
	"slices"

	"modcert/api"
	"modcert/environ"
	"modcert/syntax"
)

// form finds the first error of the form of the module, or its first declaration that is not resolved.
func (c checker) form(add report) {
	if i, err := syntax.CheckModule(c.module); err != api.OK {
		add(i, err, "")
		return
	}
	for i, d := range c.module.Decls {
		own := d.Kind == api.DeclUse && d.Module == c.module.Path
		if own || !allPaths(modulesIn(d)) {
			add(i, api.ErrArg, "")
			return
		}
	}
}

// allPaths reports whether all of some strings are paths.
func allPaths(list []string) bool {
	return !slices.ContainsFunc(list, func(s string) bool {
		// This layer does not call the lexer, but a module without declarations has its form if its path is one.
		_, err := syntax.CheckModule(api.Module{Path: s})
		return err != api.OK
	})
}

// modulesIn returns the modules to which a declaration refers, in increasing order.
func modulesIn(d api.Decl) []string {
	found := map[string]bool{}
	typed := func(types ...api.Type) {
		for _, t := range types {
			for _, use := range syntax.Mentions(t) {
				found[use.Module] = true
			}
		}
	}
	var valued func(e api.Expr)
	valued = func(e api.Expr) {
		if e.Kind == api.ExprValue {
			found[e.Module] = true
		}
		typed(e.Types...)
		for _, label := range e.Labels {
			typed(label.Type)
		}
		for _, kid := range e.Kids {
			valued(kid)
		}
	}
	if d.Kind == api.DeclUse {
		found[d.Module] = true
	}
	typed(d.Lower, d.Upper)
	typed(stated(d)...)
	valued(d.Expr)
	return slices.Sorted(maps.Keys(found))
}

// stated returns the types that the declaration of a value states: its type, and the bounds of its variables.
func stated(d api.Decl) []api.Type {
	types := []api.Type{d.Type}
	for _, param := range d.Params {
		types = append(types, param.Bound)
	}
	return types
}

// imports finds the imports that do not exist, and the declarations that refer to modules that are not imported.
func (c checker) imports(add report) {
	known := map[string]bool{c.module.Path: true}
	for _, i := range c.module.Imports {
		known[i.Path] = true
		if _, ok := environ.Find(c.env, i.Path); !ok {
			add(-1, api.ErrNotFound, i.Path)
		}
	}
	for i, d := range c.module.Decls {
		modules := modulesIn(d)
		if at := slices.IndexFunc(modules, func(path string) bool { return !known[path] }); at >= 0 {
			add(i, api.ErrNotFound, modules[at])
		}
	}
}
