package evaluate

import (
	"slices"

	"modcert/api"
)

// rule is a method that returns the value of the expressions of a kind.
type rule func(r *run, e *api.Expr, f *frame) *value

// rules returns the rules by the kinds. Ascriptions have none: they are skipped.
func rules() [api.ExprOp + 1]rule {
	return [...]rule{
		api.ExprInt:     (*run).literal,
		api.ExprText:    (*run).literal,
		api.ExprBool:    (*run).literal,
		api.ExprLocal:   (*run).local,
		api.ExprValue:   (*run).global,
		api.ExprRecord:  (*run).record,
		api.ExprProject: (*run).projection,
		api.ExprInject:  (*run).injection,
		api.ExprFunc:    (*run).function,
		api.ExprCall:    (*run).call,
		api.ExprLet:     (*run).let,
		api.ExprIf:      (*run).choice,
		api.ExprMatch:   (*run).match,
		api.ExprList:    (*run).list,
		api.ExprFold:    (*run).fold,
		api.ExprOp:      (*run).operation,
	}
}

func (r *run) literal(e *api.Expr, _ *frame) *value {
	kinds := [...]int{api.ExprInt: api.ValueInt, api.ExprText: api.ValueText, api.ExprBool: api.ValueBool}
	return &value{kind: kinds[e.Kind], number: e.Number, text: e.Text}
}

func (r *run) local(e *api.Expr, f *frame) *value {
	return f.find(e.Name)
}

func (r *run) global(e *api.Expr, _ *frame) *value {
	return r.named(e.Module, e.Name)
}

func (r *run) record(e *api.Expr, f *frame) *value {
	v := &value{kind: api.ValueRecord, items: r.values(e.Kids, f)}
	for _, label := range e.Labels {
		v.names = append(v.names, label.Name)
	}
	return v
}

func (r *run) projection(e *api.Expr, f *frame) *value {
	record := r.ofKind(api.ValueRecord, &e.Kids[0], f)
	at := slices.Index(record.names, e.Name)
	require(at >= 0, api.ErrType)
	return record.items[at]
}

func (r *run) injection(e *api.Expr, f *frame) *value {
	return &value{kind: api.ValueVariant, names: []string{e.Name}, items: r.values(e.Kids, f)}
}

func (r *run) function(e *api.Expr, f *frame) *value {
	return &value{kind: api.ValueFunc, code: e, locals: f}
}

func (r *run) call(e *api.Expr, f *frame) *value {
	values := r.values(e.Kids, f)
	function := values[0]
	require(function.kind == api.ValueFunc, api.ErrType)
	given := map[string]*value{}
	for i, label := range e.Labels {
		given[label.Name] = values[i+1]
	}
	requireParams(function.code.Labels, given)
	inside := function.locals
	defaults := function.code.Kids // in front of the body
	for _, param := range function.code.Labels {
		v, ok := given[param.Name]
		if !ok {
			v = r.value(&defaults[0], function.locals)
		}
		if param.Optional {
			defaults = defaults[1:]
		}
		inside = inside.with(param.Name, v)
	}
	return r.value(&defaults[0], inside)
}

// requireParams requires that there is a parameter for each argument, and an argument for each parameter that is not optional.
func requireParams(params []api.Label, given map[string]*value) {
	taken := 0
	for _, param := range params {
		_, ok := given[param.Name]
		require(ok || param.Optional, api.ErrType)
		if ok {
			taken++
		}
	}
	require(taken == len(given), api.ErrType)
}

func (r *run) let(e *api.Expr, f *frame) *value {
	v := r.value(&e.Kids[0], f)
	return r.value(&e.Kids[1], f.with(e.Name, v))
}

func (r *run) choice(e *api.Expr, f *frame) *value {
	if r.ofKind(api.ValueBool, &e.Kids[0], f).number == 1 {
		return r.value(&e.Kids[1], f)
	}
	return r.value(&e.Kids[2], f)
}

func (r *run) match(e *api.Expr, f *frame) *value {
	variant := r.ofKind(api.ValueVariant, &e.Kids[0], f)
	at := slices.IndexFunc(e.Labels, func(l api.Label) bool { return l.Name == variant.names[0] })
	require(at >= 0, api.ErrType)
	return r.value(&e.Kids[at+1], f.with(e.Labels[at].Variable, variant.items[0]))
}

func (r *run) list(e *api.Expr, f *frame) *value {
	items := r.values(e.Kids, f)
	require(len(items) <= api.MaxList, api.ErrTooLarge)
	return &value{kind: api.ValueList, items: items}
}

func (r *run) fold(e *api.Expr, f *frame) *value {
	list := r.ofKind(api.ValueList, &e.Kids[0], f)
	accumulator := r.value(&e.Kids[1], f)
	for _, item := range list.items {
		accumulator = r.value(&e.Kids[2], f.with(e.Name, item).with(e.Text, accumulator))
	}
	return accumulator
}
