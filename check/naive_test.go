package check_test

import (
	"slices"
	"strconv"

	"modcert/api"
	"modcert/environ"
	"modcert/subtype"
	"modcert/syntax"
	"modcert/wellformed"
)

// direct finds types as the chapter says it. An error leaves it as a panic.
type direct struct {
	env     api.Env
	context api.Context
}

func naive(env api.Env, c api.Context, locals []api.Field, e api.Expr) (t api.Type, err api.Errno) {
	defer func() {
		if reason := recover(); reason != nil {
			t, err = api.Type{}, reason.(api.Errno)
		}
	}()
	return direct{env, c}.typed(locals, e), api.OK
}

func (d direct) formed(types ...api.Type) {
	var names []string
	for _, param := range d.context {
		names = append(names, param.Name)
	}
	for _, t := range types {
		if err := wellformed.Type(d.env, names, t); err != api.OK {
			panic(err)
		}
	}
}

func (d direct) against(locals []api.Field, e api.Expr, t api.Type) {
	if !subtype.Is(d.env, d.context, d.typed(locals, e), t) {
		panic(api.ErrType)
	}
}

// exposed returns the type of an expression, which is of a kind or none.
func (d direct) exposed(locals []api.Field, e api.Expr, kind int) api.Type {
	t := subtype.Expose(d.env, d.context, d.typed(locals, e))
	if t.Kind != kind && t.Kind != api.TypeNone {
		panic(api.ErrType)
	}
	return t
}

// fieldsOf returns the types of the fields of a type.
func fieldsOf(t api.Type) map[string]api.Field {
	result := map[string]api.Field{}
	for _, f := range t.Fields {
		result[f.Name] = f
	}
	return result
}

// with returns local variables with one more.
func with(locals []api.Field, name string, t api.Type) []api.Field {
	return append(slices.Clone(locals), api.Field{Name: name, Type: t})
}

func (d direct) typed(locals []api.Field, e api.Expr) api.Type {
	switch e.Kind {
	case api.ExprInt:
		return integer
	case api.ExprText:
		return text
	case api.ExprBool:
		return boolean
	case api.ExprLocal:
		for i := len(locals) - 1; i >= 0; i-- {
			if locals[i].Name == e.Name {
				return locals[i].Type
			}
		}
		panic(api.ErrNotFound)
	case api.ExprValue:
		return d.value(e)
	case api.ExprRecord, api.ExprInject:
		t := api.Type{Kind: api.TypeRecord}
		labels := e.Labels
		if e.Kind == api.ExprInject {
			t.Kind, labels = api.TypeVariant, []api.Label{{Name: e.Name}}
		}
		for i, kid := range e.Kids {
			t.Fields = append(t.Fields, api.Field{Name: labels[i].Name, Type: d.typed(locals, kid)})
		}
		return t
	case api.ExprProject:
		t := d.exposed(locals, e.Kids[0], api.TypeRecord)
		if t.Kind == api.TypeNone {
			return nothing
		}
		if f, ok := fieldsOf(t)[e.Name]; ok {
			return f.Type
		}
		panic(api.ErrType)
	case api.ExprLet:
		return d.typed(with(locals, e.Name, d.typed(locals, e.Kids[0])), e.Kids[1])
	case api.ExprFunc:
		return d.function(locals, e)
	case api.ExprCall:
		return d.call(locals, e)
	case api.ExprOp:
		return d.operation(locals, e)
	}
	return d.annotated(locals, e)
}

func (d direct) value(e api.Expr) api.Type {
	entry, _, err := environ.Value(d.env, e.Module, e.Name)
	if err != api.OK {
		panic(err)
	}
	if len(e.Types) != len(entry.Params) {
		panic(api.ErrArity)
	}
	d.formed(e.Types...)
	var names []string
	for _, param := range entry.Params {
		names = append(names, param.Name)
	}
	for i, t := range e.Types {
		if !subtype.Is(d.env, d.context, t, syntax.Substitute(entry.Params[i].Bound, names, e.Types)) {
			panic(api.ErrBound)
		}
	}
	return syntax.Substitute(entry.Type, names, e.Types)
}

func (d direct) function(locals []api.Field, e api.Expr) api.Type {
	t := api.Type{Kind: api.TypeFunc}
	for _, label := range e.Labels {
		d.formed(label.Type)
	}
	body, inside := len(e.Kids)-1, locals
	kid := 0
	for _, label := range e.Labels {
		if label.Optional {
			d.against(locals, e.Kids[kid], label.Type)
			kid++
		}
		inside = with(inside, label.Name, label.Type)
		t.Fields = append(t.Fields, api.Field{Name: label.Name, Type: label.Type, Optional: label.Optional})
	}
	t.Args = []api.Type{d.typed(inside, e.Kids[body])}
	return t
}

func (d direct) call(locals []api.Field, e api.Expr) api.Type {
	t := d.exposed(locals, e.Kids[0], api.TypeFunc)
	if t.Kind == api.TypeNone {
		for _, kid := range e.Kids[1:] {
			d.typed(locals, kid)
		}
		return nothing
	}
	params := fieldsOf(t)
	given := map[string]bool{}
	for _, label := range e.Labels {
		given[label.Name] = true
		if _, ok := params[label.Name]; !ok {
			panic(api.ErrArity)
		}
	}
	for name, param := range params {
		if !given[name] && !param.Optional {
			panic(api.ErrArity)
		}
	}
	for i, label := range e.Labels {
		d.against(locals, e.Kids[i+1], params[label.Name].Type)
	}
	return t.Args[0]
}

func (d direct) operation(locals []api.Field, e api.Expr) api.Type {
	// The types of the operands and the result: i, b and t stand for int, bool and text.
	signature := map[string]string{"+": "iii", "-": "iii", "*": "iii", "<": "iib", "==": "iib", "++": "ttt", "===": "ttb", "and": "bbb", "or": "bbb", "not": "bb", "length": "ti"}[e.Name]
	letters := map[byte]api.Type{'i': integer, 'b': boolean, 't': text}
	for i, kid := range e.Kids {
		d.against(locals, kid, letters[signature[i]])
	}
	return letters[signature[len(e.Kids)]]
}

// annotated returns the type of an expression with one in Types.
func (d direct) annotated(locals []api.Field, e api.Expr) api.Type {
	t := e.Types[0]
	d.formed(t)
	switch e.Kind {
	case api.ExprAscribe:
		d.against(locals, e.Kids[0], t)
	case api.ExprIf:
		for i, want := range []api.Type{boolean, t, t} {
			d.against(locals, e.Kids[i], want)
		}
	case api.ExprList:
		for _, kid := range e.Kids {
			d.against(locals, kid, t)
		}
		return list(t)
	case api.ExprMatch:
		cases := fieldsOf(d.exposed(locals, e.Kids[0], api.TypeVariant))
		given := map[string]bool{}
		for _, label := range e.Labels {
			given[label.Name] = true
		}
		for name := range cases {
			if !given[name] {
				panic(api.ErrArity)
			}
		}
		for i, label := range e.Labels {
			u := nothing
			if f, ok := cases[label.Name]; ok {
				u = f.Type
			}
			d.against(with(locals, label.Variable, u), e.Kids[i+1], t)
		}
	case api.ExprFold:
		elements := nothing
		if l := d.exposed(locals, e.Kids[0], api.TypeList); l.Kind == api.TypeList {
			elements = l.Args[0]
		}
		d.against(locals, e.Kids[1], t)
		d.against(with(with(locals, e.Name, elements), e.Text, t), e.Kids[2], t)
	}
	return t
}

// author makes expressions for an environment, a context and local variables.
type author struct {
	generator
	context api.Context
}

// names of local variables and fields, in increasing order.
func someNames() []string {
	return []string{"a", "b", "c", "x"}
}

func (a author) name() string {
	return someNames()[a.r.Intn(len(someNames()))]
}

// expr returns an expression that is mostly against a type. One of the local variables should have the type none.
func (a author) expr(locals []api.Field, t api.Type, levels int) api.Expr {
	if levels == 0 || a.r.Intn(6) == 0 {
		return a.small(locals, t)
	}
	switch a.r.Intn(14) {
	case 0:
		u, name := a.typed(1), a.name()
		return api.Expr{Kind: api.ExprLet, Name: name, Kids: []api.Expr{a.expr(locals, u, levels-1), a.expr(with(locals, name, u), t, levels-1)}}
	case 1:
		return api.Expr{Kind: api.ExprAscribe, Types: []api.Type{t}, Kids: []api.Expr{a.expr(locals, t, levels-1)}}
	case 2:
		return api.Expr{Kind: api.ExprIf, Types: []api.Type{t}, Kids: []api.Expr{a.expr(locals, boolean, levels-1), a.expr(locals, t, levels-1), a.expr(locals, t, levels-1)}}
	case 3:
		return a.match(locals, t, levels)
	case 4:
		u := a.typed(1)
		inside := with(with(locals, "a", u), "x", t)
		return api.Expr{Kind: api.ExprFold, Name: "a", Text: "x", Types: []api.Type{t}, Kids: []api.Expr{a.expr(locals, list(u), levels-1), a.expr(locals, t, levels-1), a.expr(inside, t, levels-1)}}
	case 5, 6:
		fields := a.fields(1)
		name := a.name()
		fields = slices.DeleteFunc(fields, func(f api.Field) bool { return f.Name >= name })
		return api.Expr{Kind: api.ExprProject, Name: name, Kids: []api.Expr{a.expr(locals, record(append(fields, api.Field{Name: name, Type: t})...), levels-1)}}
	case 7, 8:
		return a.call(locals, t, levels)
	}
	return a.intro(locals, t, levels)
}

func (a author) match(locals []api.Field, t api.Type, levels int) api.Expr {
	cases := a.fields(1)
	e := api.Expr{Kind: api.ExprMatch, Types: []api.Type{t}, Kids: []api.Expr{a.expr(locals, api.Type{Kind: api.TypeVariant, Fields: cases}, levels-1)}}
	for _, name := range someNames() {
		u := nothing
		at := slices.IndexFunc(cases, func(f api.Field) bool { return f.Name == name })
		if at < 0 && a.r.Intn(3) > 0 {
			continue
		}
		if at >= 0 {
			u = cases[at].Type
		}
		label := api.Label{Name: name, Variable: a.name()}
		e.Labels = append(e.Labels, label)
		e.Kids = append(e.Kids, a.expr(with(locals, label.Variable, u), t, levels-1))
	}
	return e
}

func (a author) call(locals []api.Field, t api.Type, levels int) api.Expr {
	function := api.Type{Kind: api.TypeFunc, Fields: a.fields(1), Args: []api.Type{t}}
	e := api.Expr{Kind: api.ExprCall, Kids: []api.Expr{{}}}
	for i, param := range function.Fields {
		if function.Fields[i].Optional = a.r.Intn(2) == 0; function.Fields[i].Optional && a.r.Intn(2) == 0 {
			continue
		}
		e.Labels = append(e.Labels, api.Label{Name: param.Name})
		e.Kids = append(e.Kids, a.expr(locals, param.Type, levels-1))
	}
	e.Kids[0] = a.expr(locals, function, levels-1)
	return e
}

// operation returns an operation with some operands.
func (a author) operation(locals []api.Field, operand api.Type, levels int, names ...string) api.Expr {
	e := api.Expr{Kind: api.ExprOp, Name: names[a.r.Intn(len(names))]}
	for range 2 {
		e.Kids = append(e.Kids, a.expr(locals, operand, levels-1))
	}
	if e.Name == "not" || e.Name == "length" {
		e.Kids = e.Kids[:1]
	}
	return e
}

// intro returns an expression of the kind that makes values of a type.
func (a author) intro(locals []api.Field, t api.Type, levels int) api.Expr {
	switch t.Kind {
	case api.TypeAny:
		return a.expr(locals, a.typed(1), levels-1)
	case api.TypeInt:
		if a.r.Intn(4) == 0 {
			return a.operation(locals, text, levels, "length")
		}
		return a.operation(locals, integer, levels, "+", "-", "*")
	case api.TypeText:
		return a.operation(locals, text, levels, "++")
	case api.TypeBool:
		switch a.r.Intn(3) {
		case 0:
			return a.operation(locals, integer, levels, "<", "==")
		case 1:
			return a.operation(locals, text, levels, "===")
		}
		return a.operation(locals, boolean, levels, "and", "or", "not")
	case api.TypeList:
		e := api.Expr{Kind: api.ExprList, Types: []api.Type{t.Args[0]}}
		for range a.r.Intn(3) {
			e.Kids = append(e.Kids, a.expr(locals, t.Args[0], levels-1))
		}
		return e
	case api.TypeRecord:
		return a.record(locals, t, levels)
	case api.TypeVariant:
		if len(t.Fields) > 0 {
			f := t.Fields[a.r.Intn(len(t.Fields))]
			return api.Expr{Kind: api.ExprInject, Name: f.Name, Kids: []api.Expr{a.expr(locals, f.Type, levels-1)}}
		}
	case api.TypeFunc:
		return a.function(locals, t, levels)
	case api.TypeRef:
		if lower, _, err := environ.Bounds(a.env, t); err == api.OK && lower.Kind != api.TypeNone {
			return a.expr(locals, lower, levels-1)
		}
	}
	return a.small(locals, t)
}

func (a author) record(locals []api.Field, t api.Type, levels int) api.Expr {
	e := api.Expr{Kind: api.ExprRecord}
	for _, name := range someNames() {
		at := slices.IndexFunc(t.Fields, func(f api.Field) bool { return f.Name == name })
		if at < 0 && a.r.Intn(3) > 0 {
			continue
		}
		u := a.typed(1)
		if at >= 0 {
			u = t.Fields[at].Type
		}
		e.Labels = append(e.Labels, api.Label{Name: name})
		e.Kids = append(e.Kids, a.expr(locals, u, levels-1))
	}
	return e
}

func (a author) function(locals []api.Field, t api.Type, levels int) api.Expr {
	e := api.Expr{Kind: api.ExprFunc}
	inside := locals
	for _, name := range someNames() {
		at := slices.IndexFunc(t.Fields, func(f api.Field) bool { return f.Name == name })
		if at < 0 && a.r.Intn(3) > 0 {
			continue
		}
		label := api.Label{Name: name, Type: a.typed(1), Optional: true}
		if at >= 0 {
			label.Type, label.Optional = a.moved(t.Fields[at].Type, true, 1), t.Fields[at].Optional || a.r.Intn(3) == 0
		}
		if label.Optional {
			e.Kids = append(e.Kids, a.expr(locals, label.Type, levels-1))
		}
		e.Labels = append(e.Labels, label)
		inside = with(inside, name, label.Type)
	}
	e.Kids = append(e.Kids, a.expr(inside, t.Args[0], levels-1))
	return e
}

// small returns an expression without kids that is against a type.
func (a author) small(locals []api.Field, t api.Type) api.Expr {
	var list []api.Expr
	for _, l := range locals {
		if actual, _ := naive(a.env, a.context, locals, local(l.Name)); subtype.Is(a.env, a.context, actual, t) && actual.Kind != api.TypeNone {
			list = append(list, local(l.Name))
		}
	}
	for _, use := range a.values {
		entry, _, _ := environ.Value(a.env, use.Module, use.Name)
		e := api.Expr{Kind: api.ExprValue, Module: use.Module, Name: use.Name}
		for _, param := range entry.Params {
			e.Types = append(e.Types, a.moved(param.Bound, false, 2))
		}
		if actual, err := naive(a.env, a.context, nil, e); err == api.OK && subtype.Is(a.env, a.context, actual, t) {
			list = append(list, e)
		}
	}
	switch t.Kind {
	case api.TypeAny, api.TypeInt:
		list = append(list, number(a.r.Intn(9)))
	case api.TypeBool:
		list = append(list, api.Expr{Kind: api.ExprBool, Number: a.r.Intn(2)})
	case api.TypeText:
		list = append(list, api.Expr{Kind: api.ExprText, Text: strconv.Itoa(a.r.Intn(9))})
	}
	if len(list) == 0 {
		return local("n")
	}
	return list[a.r.Intn(len(list))]
}

// spoiled returns an expression that has its form, in which something is changed.
func (a author) spoiled(locals []api.Field, e api.Expr) api.Expr {
	e = duplicate(e)
	if kids := len(e.Kids); kids > 0 && a.r.Intn(4) > 0 {
		at := a.r.Intn(kids)
		e.Kids[at] = a.spoiled(locals, e.Kids[at])
		return e
	}
	switch a.r.Intn(5) {
	case 0:
		return a.expr(locals, a.typed(1), 1)
	case 1:
		if e.Name != "" && e.Kind != api.ExprOp && e.Kind != api.ExprFold {
			e.Name = a.name()
		}
	case 2:
		if len(e.Types) > 0 {
			e.Types[a.r.Intn(len(e.Types))] = a.badType()
		} else if e.Kind == api.ExprFunc && len(e.Labels) > 0 {
			e.Labels[a.r.Intn(len(e.Labels))].Type = a.badType()
		}
	case 3:
		kinds := []int{api.ExprRecord, api.ExprCall, api.ExprMatch}
		if slices.Contains(kinds, e.Kind) && len(e.Labels) > 0 {
			at := a.r.Intn(len(e.Labels))
			e.Labels = slices.Delete(e.Labels, at, at+1)
			e.Kids = slices.Delete(e.Kids, len(e.Kids)-1, len(e.Kids))
		}
	case 4:
		if e.Kind == api.ExprValue {
			e.Types = append(e.Types, a.typed(1))
		} else if e.Kind == api.ExprOp && len(e.Kids) == 2 {
			e.Name = []string{"+", "-", "*", "<", "==", "===", "++", "and", "or"}[a.r.Intn(9)]
		}
	}
	return e
}

// badType returns a type that is often not well-formed.
func (a author) badType() api.Type {
	switch a.r.Intn(6) {
	case 0:
		return variable("Q")
	case 1:
		return reference("a/v1", "Missing")
	case 2:
		return list(api.Type{Kind: 99})
	}
	return a.typed(1)
}
