package check

import (
	"modcert/api"
	"modcert/environ"
)

// rule is a method that returns the type of the expressions of a kind.
type rule func(w walk, s *scope, e api.Expr) (api.Type, api.Errno)

// rules returns the rules by the kinds.
func rules() [api.ExprOp + 1]rule {
	return [...]rule{
		api.ExprInt:     walk.literal,
		api.ExprText:    walk.literal,
		api.ExprBool:    walk.literal,
		api.ExprLocal:   walk.local,
		api.ExprValue:   walk.value,
		api.ExprRecord:  walk.record,
		api.ExprProject: walk.projection,
		api.ExprInject:  walk.injection,
		api.ExprFunc:    walk.function,
		api.ExprCall:    walk.call,
		api.ExprLet:     walk.let,
		api.ExprAscribe: walk.ascription,
		api.ExprIf:      walk.choice,
		api.ExprMatch:   walk.match,
		api.ExprList:    walk.list,
		api.ExprFold:    walk.fold,
		api.ExprOp:      walk.operation,
	}
}

// complete reports whether an expression has all parts at which its rule looks, as each one does that has its form.
func complete(e api.Expr) bool {
	if e.Kind < 0 || e.Kind > api.ExprOp {
		return false
	}
	kids, types := 0, 0
	switch e.Kind {
	case api.ExprRecord:
		kids = len(e.Labels)
	case api.ExprProject, api.ExprInject:
		kids = 1
	case api.ExprFunc:
		kids = 1 + optional(e.Labels)
	case api.ExprCall:
		kids = len(e.Labels) + 1
	case api.ExprLet:
		kids = 2
	case api.ExprAscribe:
		kids, types = 1, 1
	case api.ExprIf, api.ExprFold:
		kids, types = 3, 1
	case api.ExprMatch:
		kids, types = len(e.Labels)+1, 1
	case api.ExprList:
		types = 1
	}
	return len(e.Kids) >= kids && len(e.Types) >= types
}

func (w walk) literal(_ *scope, e api.Expr) (api.Type, api.Errno) {
	kinds := [...]int{api.ExprInt: api.TypeInt, api.ExprText: api.TypeText, api.ExprBool: api.TypeBool}
	return basic(kinds[e.Kind]), api.OK
}

func (w walk) local(s *scope, e api.Expr) (api.Type, api.Errno) {
	return s.find(e.Name)
}

func (w walk) value(_ *scope, e api.Expr) (api.Type, api.Errno) {
	entry, _, err := environ.Value(w.env, e.Module, e.Name)
	if err != api.OK {
		return api.Type{}, err
	}
	if len(e.Types) != len(entry.Params) {
		return api.Type{}, api.ErrArity
	}
	var tests, bounds []test
	types := map[string]api.Type{}
	for i, param := range entry.Params {
		types[param.Name] = e.Types[i]
	}
	for i, param := range entry.Params {
		tests = append(tests, w.formed(e.Types[i]))
		bounds = append(bounds, w.bounded(e.Types[i], substituted(param.Bound, types)))
	}
	return substituted(entry.Type, types), first(append(tests, bounds...)...)
}

func (w walk) record(s *scope, e api.Expr) (api.Type, api.Errno) {
	t := api.Type{Kind: api.TypeRecord}
	for i, label := range e.Labels {
		field, err := w.typed(s, e.Kids[i])
		if err != api.OK {
			return api.Type{}, err
		}
		t.Fields = append(t.Fields, api.Field{Name: label.Name, Type: field})
	}
	return t, api.OK
}

func (w walk) projection(s *scope, e api.Expr) (api.Type, api.Errno) {
	t, err := w.exposed(s, e.Kids[0], api.TypeRecord)
	if err != api.OK || t.Kind == api.TypeNone {
		return t, err
	}
	field, ok := named(t.Fields, e.Name)
	if !ok {
		return api.Type{}, api.ErrType
	}
	return field.Type, api.OK
}

func (w walk) injection(s *scope, e api.Expr) (api.Type, api.Errno) {
	t, err := w.typed(s, e.Kids[0])
	return api.Type{Kind: api.TypeVariant, Fields: []api.Field{{Name: e.Name, Type: t}}}, err
}

func (w walk) function(s *scope, e api.Expr) (api.Type, api.Errno) {
	t := api.Type{Kind: api.TypeFunc}
	inside := s
	var tests, defaults []test
	for _, label := range e.Labels {
		tests = append(tests, w.formed(label.Type))
		if label.Optional {
			defaults = append(defaults, w.against(s, e.Kids[len(defaults)], label.Type))
		}
		inside = inside.with(label.Name, label.Type)
		t.Fields = append(t.Fields, api.Field{Name: label.Name, Type: label.Type, Optional: label.Optional})
	}
	if err := first(append(tests, defaults...)...); err != api.OK {
		return api.Type{}, err
	}
	result, err := w.typed(inside, e.Kids[len(defaults)])
	t.Args = []api.Type{result}
	return t, err
}

func (w walk) call(s *scope, e api.Expr) (api.Type, api.Errno) {
	function, err := w.exposed(s, e.Kids[0], api.TypeFunc)
	if err != api.OK {
		return api.Type{}, err
	}
	var tests []test
	for i, label := range e.Labels {
		argument := e.Kids[i+1]
		param, ok := named(function.Fields, label.Name)
		switch {
		case function.Kind == api.TypeNone:
			tests = append(tests, w.typable(s, argument))
		case !ok:
			return api.Type{}, api.ErrArity
		default:
			tests = append(tests, w.against(s, argument, param.Type))
		}
	}
	for _, param := range function.Fields {
		if !param.Optional && !labelled(e.Labels, param.Name) {
			return api.Type{}, api.ErrArity
		}
	}
	return element(function), first(tests...)
}

func (w walk) let(s *scope, e api.Expr) (api.Type, api.Errno) {
	t, err := w.typed(s, e.Kids[0])
	if err != api.OK {
		return api.Type{}, err
	}
	return w.typed(s.with(e.Name, t), e.Kids[1])
}

func (w walk) ascription(s *scope, e api.Expr) (api.Type, api.Errno) {
	t := e.Types[0]
	return t, first(w.formed(t), w.against(s, e.Kids[0], t))
}

func (w walk) choice(s *scope, e api.Expr) (api.Type, api.Errno) {
	t := e.Types[0]
	return t, first(w.formed(t),
		w.against(s, e.Kids[0], basic(api.TypeBool)), w.against(s, e.Kids[1], t), w.against(s, e.Kids[2], t))
}

func (w walk) match(s *scope, e api.Expr) (api.Type, api.Errno) {
	t := e.Types[0]
	if err := w.formed(t)(); err != api.OK {
		return api.Type{}, err
	}
	variant, err := w.exposed(s, e.Kids[0], api.TypeVariant)
	if err != api.OK {
		return api.Type{}, err
	}
	for _, each := range variant.Fields {
		if !labelled(e.Labels, each.Name) {
			return api.Type{}, api.ErrArity
		}
	}
	var tests []test
	for i, label := range e.Labels {
		given, ok := named(variant.Fields, label.Name)
		if !ok {
			given.Type = basic(api.TypeNone) // this arm is never chosen
		}
		tests = append(tests, w.against(s.with(label.Variable, given.Type), e.Kids[i+1], t))
	}
	return t, first(tests...)
}

func (w walk) list(s *scope, e api.Expr) (api.Type, api.Errno) {
	t := e.Types[0]
	tests := []test{w.formed(t)}
	for _, kid := range e.Kids {
		tests = append(tests, w.against(s, kid, t))
	}
	return api.Type{Kind: api.TypeList, Args: []api.Type{t}}, first(tests...)
}

func (w walk) fold(s *scope, e api.Expr) (api.Type, api.Errno) {
	t := e.Types[0]
	if err := w.formed(t)(); err != api.OK {
		return api.Type{}, err
	}
	list, err := w.exposed(s, e.Kids[0], api.TypeList)
	if err != api.OK {
		return api.Type{}, err
	}
	inside := s.with(e.Name, element(list)).with(e.Text, t)
	return t, first(w.against(s, e.Kids[1], t), w.against(inside, e.Kids[2], t))
}

func (w walk) operation(s *scope, e api.Expr) (api.Type, api.Errno) {
	operand, result, known := operator(e.Name)
	if !known {
		return api.Type{}, api.ErrArg
	}
	var tests []test
	for _, kid := range e.Kids {
		tests = append(tests, w.against(s, kid, basic(operand)))
	}
	return basic(result), first(tests...)
}

// operator returns the kinds of the types of the operands and of the result of an operator.
func operator(name string) (int, int, bool) {
	switch name {
	case "+", "-", "*":
		return api.TypeInt, api.TypeInt, true
	case "<", "==":
		return api.TypeInt, api.TypeBool, true
	case "++":
		return api.TypeText, api.TypeText, true
	case "===":
		return api.TypeText, api.TypeBool, true
	case "and", "or", "not":
		return api.TypeBool, api.TypeBool, true
	case "length":
		return api.TypeText, api.TypeInt, true
	}
	return 0, 0, false
}
