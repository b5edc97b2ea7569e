package author

import (
	"slices"
	"strconv"

	"modcert/api"
	"modcert/check"
	"modcert/environ"
)

const mostTried = 3 // values of modules in place of one expression

// with returns local variables with one more.
func with(locals []api.Field, name string, t api.Type) []api.Field {
	return append(slices.Clone(locals), api.Field{Name: name, Type: t})
}

// typesOf returns the types of some fields.
func typesOf(fields []api.Field) []api.Type {
	var types []api.Type
	for _, f := range fields {
		types = append(types, f.Type)
	}
	return types
}

// fieldOf returns the field with a name.
func fieldOf(fields []api.Field, name string) (api.Field, bool) {
	at := slices.IndexFunc(fields, func(f api.Field) bool { return f.Name == name })
	if at < 0 {
		return api.Field{}, false
	}
	return fields[at], true
}

// kids returns expressions against some types, if there is one for each of them.
func (a author) kids(locals []api.Field, levels int, types ...api.Type) ([]api.Expr, bool) {
	var kids []api.Expr
	for _, t := range types {
		kid, ok := a.expr(locals, t, levels)
		if !ok {
			return nil, false
		}
		kids = append(kids, kid)
	}
	return kids, true
}

// expr returns an expression that is against a type, if one was found.
func (a author) expr(locals []api.Field, t api.Type, levels int) (api.Expr, bool) {
	for range 2 {
		var e api.Expr
		var ok bool
		switch {
		case levels > 0 && a.choose(2) == 0:
			e, ok = a.elimination(locals, t, levels-1)
		case a.choose(3) == 0:
			e, ok = a.known(locals, t)
		default:
			e, ok = a.introduction(locals, t, levels-1)
		}
		if ok {
			return e, true
		}
	}
	return a.known(locals, t)
}

// elimination returns an expression with a kind that has any type.
func (a author) elimination(locals []api.Field, t api.Type, levels int) (api.Expr, bool) {
	e := api.Expr{Types: []api.Type{t}}
	ok := true
	switch a.choose(7) {
	case 0:
		e = api.Expr{Kind: api.ExprLet, Name: a.name()}
		return a.let(locals, e, t, levels)
	case 1:
		e.Kind = api.ExprAscribe
		e.Kids, ok = a.kids(locals, levels, t)
	case 2:
		e.Kind = api.ExprIf
		e.Kids, ok = a.kids(locals, levels, api.Type{Kind: api.TypeBool}, t, t)
	case 3:
		e.Kind = api.ExprMatch
		return a.match(locals, e, levels)
	case 4:
		e.Kind, e.Name, e.Text = api.ExprFold, "a", "x"
		return a.fold(locals, e, levels)
	case 5:
		e = api.Expr{Kind: api.ExprProject, Name: a.name()}
		fields := slices.DeleteFunc(a.fields(1), func(f api.Field) bool { return f.Name >= e.Name })
		record := api.Type{Kind: api.TypeRecord, Fields: append(fields, api.Field{Name: e.Name, Type: t})}
		e.Kids, ok = a.kids(locals, levels, record)
	case 6:
		return a.call(locals, t, levels)
	}
	return e, ok
}

func (a author) let(locals []api.Field, e api.Expr, t api.Type, levels int) (api.Expr, bool) {
	bound := a.typed(1)
	first, ok := a.expr(locals, bound, levels)
	if !ok {
		return e, false
	}
	// The variable has the type of the expression, which may be a subtype.
	bound, err := check.Type(a.env, a.context, locals, first)
	second, ok := a.expr(with(locals, e.Name, bound), t, levels)
	e.Kids = []api.Expr{first, second}
	return e, ok && err == api.OK
}

func (a author) match(locals []api.Field, e api.Expr, levels int) (api.Expr, bool) {
	variant := api.Type{Kind: api.TypeVariant, Fields: a.fields(1)}
	matched, ok := a.expr(locals, variant, levels)
	e.Kids = []api.Expr{matched}
	for _, name := range someNames() {
		f, exists := fieldOf(variant.Fields, name)
		if !exists {
			f.Type = api.Type{Kind: api.TypeNone}
		}
		if !ok || !exists && a.choose(3) > 0 {
			continue
		}
		label := api.Label{Name: name, Variable: a.name()}
		var arm api.Expr
		arm, ok = a.expr(with(locals, label.Variable, f.Type), e.Types[0], levels)
		e.Labels, e.Kids = append(e.Labels, label), append(e.Kids, arm)
	}
	return e, ok
}

func (a author) fold(locals []api.Field, e api.Expr, levels int) (api.Expr, bool) {
	element := a.typed(1)
	kids, ok := a.kids(locals, levels, list(element), e.Types[0])
	if !ok {
		return e, false
	}
	last, ok := a.expr(with(with(locals, e.Name, element), e.Text, e.Types[0]), e.Types[0], levels)
	e.Kids = append(kids, last)
	return e, ok
}

func (a author) call(locals []api.Field, t api.Type, levels int) (api.Expr, bool) {
	function := api.Type{Kind: api.TypeFunc, Fields: a.fields(1), Args: []api.Type{t}}
	e := api.Expr{Kind: api.ExprCall}
	types := []api.Type{function}
	for i, param := range function.Fields {
		if function.Fields[i].Optional = a.choose(2) == 0; function.Fields[i].Optional && a.choose(2) == 0 {
			continue
		}
		e.Labels = append(e.Labels, api.Label{Name: param.Name})
		types = append(types, param.Type)
	}
	var ok bool
	e.Kids, ok = a.kids(locals, levels, types...)
	return e, ok
}

// known returns an expression without kids: a local variable, a value of a module, or a literal.
func (a author) known(locals []api.Field, t api.Type) (api.Expr, bool) {
	var found []api.Expr
	add := func(e api.Expr) {
		if check.Against(a.env, a.context, locals, e, t) == api.OK {
			found = append(found, e)
		}
	}
	for _, l := range locals {
		add(api.Expr{Kind: api.ExprLocal, Name: l.Name})
	}
	for range min(len(a.values), mostTried) {
		use := a.values[a.choose(len(a.values))]
		entry, _, _ := environ.Value(a.env, use.Module, use.Name)
		e := api.Expr{Kind: api.ExprValue, Module: use.Module, Name: use.Name}
		for _, param := range entry.Params {
			e.Types = append(e.Types, a.moved(param.Bound, false, 2))
		}
		add(e)
	}
	switch t.Kind {
	case api.TypeList, api.TypeRecord, api.TypeVariant, api.TypeFunc, api.TypeNone:
	default:
		add(api.Expr{Kind: api.ExprInt, Number: a.choose(9) - 2})
		add(api.Expr{Kind: api.ExprText, Text: strconv.Itoa(a.choose(9))})
		add(api.Expr{Kind: api.ExprBool, Number: a.choose(2)})
	}
	if len(found) == 0 {
		return api.Expr{}, false
	}
	return found[a.choose(len(found))], true
}

// introduction returns an expression of a kind that makes values of a type.
func (a author) introduction(locals []api.Field, t api.Type, levels int) (api.Expr, bool) {
	if t.Kind == api.TypeRef {
		lower, _, err := environ.Bounds(a.env, t)
		if err != api.OK || lower.Kind == api.TypeRef {
			return a.known(locals, t)
		}
		return a.introduction(locals, lower, levels)
	}
	if levels < 0 {
		return a.smallest(locals, t)
	}
	switch t.Kind {
	case api.TypeInt, api.TypeBool, api.TypeText:
		return a.operation(locals, t.Kind, levels)
	case api.TypeAny:
		return a.expr(locals, a.typed(levels), levels)
	case api.TypeList:
		e := api.Expr{Kind: api.ExprList, Types: t.Args}
		var ok bool
		e.Kids, ok = a.kids(locals, levels, slices.Repeat(t.Args, a.choose(4))...)
		return e, ok
	case api.TypeRecord:
		return a.record(locals, t, levels)
	case api.TypeVariant:
		return a.injection(locals, t, levels)
	case api.TypeFunc:
		return a.function(locals, t, levels)
	}
	return a.known(locals, t)
}

// smallest returns an expression without kids.
func (a author) smallest(locals []api.Field, t api.Type) (api.Expr, bool) {
	switch {
	case t.Kind == api.TypeList:
		return api.Expr{Kind: api.ExprList, Types: t.Args}, true
	case t.Kind == api.TypeRecord && len(t.Fields) == 0:
		return api.Expr{Kind: api.ExprRecord}, true
	}
	return a.known(locals, t)
}

// operation returns an operation whose result is of a kind.
func (a author) operation(locals []api.Field, kind, levels int) (api.Expr, bool) {
	operators := map[int][]string{
		api.TypeInt:  {"+", "-", "*", "length"},
		api.TypeText: {"++"},
		api.TypeBool: {"<", "==", "===", "and", "or", "not"},
	}[kind]
	e := api.Expr{Kind: api.ExprOp, Name: operators[a.choose(len(operators))]}
	operand := api.Type{Kind: api.TypeInt}
	switch e.Name {
	case "length", "===", "++":
		operand.Kind = api.TypeText
	case "and", "or", "not":
		operand.Kind = api.TypeBool
	}
	operands := []api.Type{operand, operand}
	if e.Name == "length" || e.Name == "not" {
		operands = operands[:1]
	}
	var ok bool
	e.Kids, ok = a.kids(locals, levels, operands...)
	return e, ok
}

// record returns a record, which may have more fields than its type.
func (a author) record(locals []api.Field, t api.Type, levels int) (api.Expr, bool) {
	e := api.Expr{Kind: api.ExprRecord}
	var fields []api.Field
	for _, name := range someNames() {
		f, ok := fieldOf(t.Fields, name)
		if !ok && levels > 0 && a.choose(4) == 0 {
			f, ok = api.Field{Name: name, Type: a.typed(1)}, true
		}
		if ok {
			e.Labels = append(e.Labels, api.Label{Name: name})
			fields = append(fields, f)
		}
	}
	var ok bool
	e.Kids, ok = a.kids(locals, levels, typesOf(fields)...)
	return e, ok
}

// injection returns a variant with one of the cases that have values.
func (a author) injection(locals []api.Field, t api.Type, levels int) (api.Expr, bool) {
	for range 2 * len(t.Fields) {
		f := t.Fields[a.choose(len(t.Fields))]
		if kid, ok := a.expr(locals, f.Type, levels); ok {
			return api.Expr{Kind: api.ExprInject, Name: f.Name, Kids: []api.Expr{kid}}, true
		}
	}
	return api.Expr{}, false
}

// function returns a function, which may have more optional parameters than its type, and more general ones.
func (a author) function(locals []api.Field, t api.Type, levels int) (api.Expr, bool) {
	e := api.Expr{Kind: api.ExprFunc}
	inside := locals
	for _, name := range someNames() {
		f, exists := fieldOf(t.Fields, name)
		if !exists && a.choose(4) > 0 {
			continue
		}
		label := api.Label{Name: name, Type: a.typed(1), Optional: !exists || f.Optional}
		if exists {
			label.Type = a.moved(f.Type, true, 1)
		}
		if exists && !f.Optional && a.choose(4) == 0 {
			label.Optional = true
		}
		if label.Optional {
			given, ok := a.expr(locals, label.Type, levels)
			if !ok {
				return e, false
			}
			e.Kids = append(e.Kids, given)
		}
		e.Labels = append(e.Labels, label)
		inside = with(inside, name, label.Type)
	}
	body, ok := a.expr(inside, t.Args[0], levels)
	e.Kids = append(e.Kids, body)
	return e, ok
}
