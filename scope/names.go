package scope

import (
	"modcert/api"
	"modcert/lexer"
)

// Meanings of names.
const (
	isUnknown  = iota
	isVariable // a type variable
	isLocal    // a local variable
	isDeclared // a type of the module, or a value that is declared before
	isLater    // a value that is declared here or later
)

// scope is some names with their meanings, and the scope around it.
type scope struct {
	meanings map[string]int
	next     *scope
}

// with returns a scope within another one, in which some names have a meaning.
func (s *scope) with(meaning int, names ...string) *scope {
	inner := &scope{map[string]int{}, s}
	for _, name := range names {
		inner.meanings[name] = meaning
	}
	return inner
}

// find returns the meaning of a name.
func (s *scope) find(name string) int {
	for ; s != nil; s = s.next {
		if meaning, ok := s.meanings[name]; ok {
			return meaning
		}
	}
	return isUnknown
}

// around returns the scope of the declaration of a module with an index: what is declared in the module.
func around(m api.Module, index int) *scope {
	var s *scope
	var declared, later []string
	for i, d := range m.Decls {
		if i < index || lexer.IsType(d.Name) {
			declared = append(declared, d.Name)
		} else {
			later = append(later, d.Name)
		}
	}
	return s.with(isDeclared, declared...).with(isLater, later...)
}

// ofKid returns the scope of a part of an expression.
func (s *scope) ofKid(e api.Expr, i int) *scope {
	switch {
	case e.Kind == api.ExprFunc && i == len(e.Kids)-1:
		var params []string
		for _, label := range e.Labels {
			params = append(params, label.Name)
		}
		return s.with(isLocal, params...)
	case e.Kind == api.ExprLet && i == 1:
		return s.with(isLocal, e.Name)
	case e.Kind == api.ExprMatch && i > 0:
		return s.with(isLocal, e.Labels[i-1].Variable)
	case e.Kind == api.ExprFold && i == 2:
		return s.with(isLocal, e.Name, e.Text)
	}
	return s
}

// resolved returns the declaration of a module with an index, with absolute references, or its first error.
func resolved(m api.Module, index int) (api.Decl, api.Errno) {
	first := api.OK
	fail := func(err api.Errno) {
		if first == api.OK {
			first = err
		}
	}
	path := func(alias string) string {
		for _, i := range m.Imports {
			if i.Alias == alias {
				return i.Path
			}
		}
		fail(api.ErrNotFound)
		return ""
	}
	names := changes{
		facade: path,
		typed: func(s *scope, t api.Type) api.Type {
			if t.Module != "" {
				t.Module = path(t.Module)
				return t
			}
			return resolvedType(m.Path, s, t, fail)
		},
		value: func(s *scope, e api.Expr) api.Expr {
			if e.Module != "" {
				e.Module = path(e.Module)
				return e
			}
			return resolvedValue(m.Path, s, e, fail)
		},
	}
	d := names.decl(around(m, index), m.Decls[index])
	if first != api.OK {
		return api.Decl{}, first
	}
	return d, api.OK
}

// resolvedType resolves a name without a module: a variable, or a type of the module with a path.
func resolvedType(path string, s *scope, t api.Type, fail func(api.Errno)) api.Type {
	switch s.find(t.Name) {
	case isVariable:
		t.Kind = api.TypeVar
		if len(t.Args) > 0 {
			fail(api.ErrArity)
		}
	case isDeclared:
		t.Module = path
	default:
		fail(api.ErrNotFound)
	}
	return t
}

// resolvedValue resolves a name without a module: a local variable, or a value of the module with a path.
func resolvedValue(path string, s *scope, e api.Expr, fail func(api.Errno)) api.Expr {
	switch s.find(e.Name) {
	case isLocal:
		if e.Kind == api.ExprValue {
			fail(api.ErrArity)
		}
	case isDeclared:
		e.Kind, e.Module = api.ExprValue, path
	case isLater:
		fail(api.ErrLoop)
	default:
		fail(api.ErrNotFound)
	}
	return e
}
