package evaluate

import (
	"modcert/api"
	"modcert/lexer"
	"modcert/syntax"
)

// failure is an error that leaves the recursion as a panic.
type failure struct{ err api.Errno }

// require ends the evaluation with an error if something does not hold.
func require(holds bool, err api.Errno) {
	if !holds {
		panic(failure{err})
	}
}

// run is an evaluation of a value of a program.
type run struct {
	rules [api.ExprOp + 1]rule
	decls map[api.Use]*api.Decl
	steps int
	uses  []api.Use
	used  map[api.Use]bool // the elements of uses
}

// declare looks at a program, and keeps where its declarations stand.
func (r *run) declare(p api.Program) {
	r.decls = map[api.Use]*api.Decl{}
	paths := map[string]bool{}
	for _, m := range p {
		_, err := syntax.CheckModule(m)
		require(err == api.OK && !paths[m.Path], api.ErrArg)
		paths[m.Path] = true
		for i := range m.Decls {
			r.decls[api.Use{Module: m.Path, Name: m.Decls[i].Name}] = &m.Decls[i]
		}
	}
}

// named returns the value of a value of the program, which is used by this.
func (r *run) named(module, name string) *value {
	end := r.end(api.Use{Module: module, Name: name})
	if !r.used[end] {
		r.used[end] = true
		r.uses = append(r.uses, end)
	}
	return r.value(&r.decls[end].Expr, nil)
}

// end returns the value to which facades lead.
func (r *run) end(use api.Use) api.Use {
	for followed := 0; ; followed++ {
		d, ok := r.decls[use]
		require(ok && isValue(d), api.ErrNotFound)
		if d.Kind == api.DeclValue {
			return use
		}
		require(followed < api.MaxModules, api.ErrLoop)
		use = api.Use{Module: d.Module, Name: d.Target}
	}
}

// isValue reports whether a declaration is that of a value or of a facade of one.
func isValue(d *api.Decl) bool {
	return d.Kind == api.DeclValue || d.Kind == api.DeclUse && lexer.IsName(d.Target)
}

// frame is a local variable with its value, in front of those that it may hide.
type frame struct {
	name  string
	value *value
	next  *frame
}

func (f *frame) with(name string, v *value) *frame {
	return &frame{name, v, f}
}

// find returns the value of a local variable.
func (f *frame) find(name string) *value {
	for ; f != nil; f = f.next {
		if f.name == name {
			return f.value
		}
	}
	panic(failure{api.ErrNotFound})
}

// value returns the value of an expression, by the rule of its kind.
func (r *run) value(e *api.Expr, f *frame) *value {
	for e.Kind == api.ExprAscribe { // which is no step, and does not make the recursion deeper
		e = &e.Kids[0]
	}
	require(r.steps < api.MaxSteps, api.ErrLimit)
	r.steps++
	return r.rules[e.Kind](r, e, f)
}

// ofKind returns the value of an expression, which must be of a kind.
func (r *run) ofKind(kind int, e *api.Expr, f *frame) *value {
	v := r.value(e, f)
	require(v.kind == kind, api.ErrType)
	return v
}

// values returns the values of expressions, in order.
func (r *run) values(list []api.Expr, f *frame) []*value {
	var values []*value
	for i := range list {
		values = append(values, r.value(&list[i], f))
	}
	return values
}
