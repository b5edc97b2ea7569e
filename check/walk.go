package check

import (
	"modcert/api"
	"modcert/subtype"
	"modcert/wellformed"
)

// walk is a walk through an expression, with what is the same everywhere in it.
type walk struct {
	env       api.Env
	context   api.Context
	variables []string // the names of the context
}

func newWalk(env api.Env, context api.Context) walk {
	w := walk{env: env, context: context}
	for _, param := range context {
		w.variables = append(w.variables, param.Name)
	}
	return w
}

// typed returns the type of an expression, by the rule of its kind.
func (w walk) typed(s *scope, e api.Expr) (api.Type, api.Errno) {
	if !complete(e) {
		return api.Type{}, api.ErrArg
	}
	return rules()[e.Kind](w, s, e)
}

// test is a test that is made when its turn comes.
type test func() api.Errno

// first returns the first error of some tests, and makes none behind it.
func first(tests ...test) api.Errno {
	for _, made := range tests {
		if err := made(); err != api.OK {
			return err
		}
	}
	return api.OK
}

// against tests whether an expression is against a type.
func (w walk) against(s *scope, e api.Expr, t api.Type) test {
	return func() api.Errno {
		own, err := w.typed(s, e)
		if err == api.OK && !subtype.Is(w.env, w.context, own, t) {
			return api.ErrType
		}
		return err
	}
}

// typable tests whether an expression has a type.
func (w walk) typable(s *scope, e api.Expr) test {
	return func() api.Errno {
		_, err := w.typed(s, e)
		return err
	}
}

// formed tests whether a type is well-formed.
func (w walk) formed(t api.Type) test {
	return func() api.Errno { return wellformed.Type(w.env, w.variables, t) }
}

// bounded tests whether a type is a subtype of a bound.
func (w walk) bounded(t, bound api.Type) test {
	return func() api.Errno {
		if !subtype.Is(w.env, w.context, t, bound) {
			return api.ErrBound
		}
		return api.OK
	}
}

// exposed returns the exposed type of an expression, if it is of a kind or none.
func (w walk) exposed(s *scope, e api.Expr, kind int) (api.Type, api.Errno) {
	t, err := w.typed(s, e)
	if err != api.OK {
		return api.Type{}, err
	}
	// Other types are exposed already, and may be too large for being copied again and again.
	if t.Kind == api.TypeVar || t.Kind == api.TypeRef {
		t = subtype.Expose(w.env, w.context, t)
	}
	hasElement := kind != api.TypeList && kind != api.TypeFunc || len(t.Args) > 0 // as each type that has its form
	if t.Kind == api.TypeNone || t.Kind == kind && hasElement {
		return t, api.OK
	}
	return api.Type{}, api.ErrType
}
