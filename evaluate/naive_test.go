package evaluate_test

import (
	"maps"
	"slices"

	"modcert/api"
	"modcert/lexer"
	"modcert/syntax"
)

// thing is a value. A function is one of Go.
type thing struct {
	kind   int
	number int
	text   string
	parts  map[string]thing
	list   []thing
	labels []api.Label
	call   func(given map[string]thing) thing
}

// machine evaluates as the chapter says it. An error leaves it as a panic.
type machine struct {
	p     api.Program
	steps int
	uses  []api.Use
}

// naive returns the value of a value of a program, the steps, the uses, and the error.
func naive(p api.Program, module, name string) (result thing, steps int, uses []api.Use, err api.Errno) {
	paths := map[string]bool{}
	for _, m := range p {
		if _, wrong := syntax.CheckModule(m); wrong != api.OK || paths[m.Path] {
			return thing{}, 0, nil, api.ErrArg
		}
		paths[m.Path] = true
	}
	m := &machine{p: p}
	defer func() {
		if reason := recover(); reason != nil {
			result, steps, uses, err = thing{}, m.steps, m.uses, reason.(api.Errno)
		}
	}()
	return m.global(module, name), m.steps, m.uses, api.OK
}

// global evaluates a value of the program.
func (m *machine) global(module, name string) thing {
	for range api.MaxModules + 1 {
		d := m.decl(module, name)
		if d.Kind == api.DeclValue {
			use := api.Use{Module: module, Name: name}
			if !slices.Contains(m.uses, use) {
				m.uses = append(m.uses, use)
			}
			return m.value(d.Expr, nil)
		}
		module, name = d.Module, d.Target
	}
	panic(api.ErrLoop)
}

func (m *machine) decl(module, name string) api.Decl {
	for _, other := range m.p {
		for _, d := range other.Decls {
			if other.Path == module && d.Name == name && lexer.IsName(name) {
				return d
			}
		}
	}
	panic(api.ErrNotFound)
}

// with returns local variables with one more.
func with(locals map[string]thing, name string, v thing) map[string]thing {
	result := maps.Clone(locals)
	if result == nil {
		result = map[string]thing{}
	}
	result[name] = v
	return result
}

func require(ok bool, err api.Errno) {
	if !ok {
		panic(err)
	}
}

func (m *machine) value(e api.Expr, locals map[string]thing) thing {
	if e.Kind == api.ExprAscribe {
		return m.value(e.Kids[0], locals)
	}
	require(m.steps < api.MaxSteps, api.ErrLimit)
	m.steps++
	of := func(i int) thing { return m.value(e.Kids[i], locals) }
	switch e.Kind {
	case api.ExprInt:
		return thing{kind: api.ValueInt, number: e.Number}
	case api.ExprText:
		return thing{kind: api.ValueText, text: e.Text}
	case api.ExprBool:
		return thing{kind: api.ValueBool, number: e.Number}
	case api.ExprLocal:
		v, ok := locals[e.Name]
		require(ok, api.ErrNotFound)
		return v
	case api.ExprValue:
		return m.global(e.Module, e.Name)
	case api.ExprRecord:
		v := thing{kind: api.ValueRecord, parts: map[string]thing{}}
		for i, label := range e.Labels {
			v.parts[label.Name] = of(i)
		}
		return v
	case api.ExprProject:
		v := of(0)
		part, ok := v.parts[e.Name]
		require(ok && v.kind == api.ValueRecord, api.ErrType)
		return part
	case api.ExprInject:
		return thing{kind: api.ValueVariant, parts: map[string]thing{e.Name: of(0)}}
	case api.ExprLet:
		return m.value(e.Kids[1], with(locals, e.Name, of(0)))
	case api.ExprFunc:
		return m.function(e, locals)
	case api.ExprCall:
		return m.call(e, locals)
	case api.ExprOp:
		return m.operation(e, of)
	}
	return m.other(e, locals)
}

func (m *machine) function(e api.Expr, locals map[string]thing) thing {
	return thing{kind: api.ValueFunc, labels: e.Labels, call: func(given map[string]thing) thing {
		inside := maps.Clone(locals)
		if inside == nil {
			inside = map[string]thing{}
		}
		kid := 0
		for _, label := range e.Labels {
			v, ok := given[label.Name]
			if !ok {
				v = m.value(e.Kids[kid], locals)
			}
			if label.Optional {
				kid++
			}
			inside[label.Name] = v
		}
		return m.value(e.Kids[kid], inside)
	}}
}

func (m *machine) call(e api.Expr, locals map[string]thing) thing {
	var values []thing
	for _, kid := range e.Kids {
		values = append(values, m.value(kid, locals))
	}
	require(values[0].kind == api.ValueFunc, api.ErrType)
	given := map[string]thing{}
	for i, label := range e.Labels {
		given[label.Name] = values[i+1]
		require(slices.ContainsFunc(values[0].labels, func(l api.Label) bool { return l.Name == label.Name }), api.ErrType)
	}
	for _, label := range values[0].labels {
		_, ok := given[label.Name]
		require(ok || label.Optional, api.ErrType)
	}
	return values[0].call(given)
}

func truth(holds bool) thing {
	if holds {
		return thing{kind: api.ValueBool, number: 1}
	}
	return thing{kind: api.ValueBool}
}

func (m *machine) operation(e api.Expr, of func(i int) thing) thing {
	operand := func(i, kind int) thing {
		v := of(i)
		require(v.kind == kind, api.ErrType)
		return v
	}
	number := func(i int) int { return operand(i, api.ValueInt).number }
	text := func(i int) string { return operand(i, api.ValueText).text }
	holds := func(i int) bool { return operand(i, api.ValueBool).number == 1 }
	switch e.Name {
	case "+":
		return thing{number: number(0) + number(1)}
	case "-":
		return thing{number: number(0) - number(1)}
	case "*":
		return thing{number: number(0) * number(1)}
	case "<":
		return truth(number(0) < number(1))
	case "==":
		return truth(number(0) == number(1))
	case "===":
		return truth(text(0) == text(1))
	case "and":
		return truth(holds(0) && holds(1))
	case "or":
		return truth(holds(0) || holds(1))
	case "not":
		return truth(!holds(0))
	case "length":
		return thing{number: len(text(0))}
	}
	joined := text(0) + text(1)
	require(len(joined) <= api.MaxText, api.ErrTooLarge)
	return thing{kind: api.ValueText, text: joined}
}

// other evaluates the kinds of expressions that look at booleans, variants and lists.
func (m *machine) other(e api.Expr, locals map[string]thing) thing {
	var values []thing
	if e.Kind == api.ExprList {
		for _, kid := range e.Kids {
			values = append(values, m.value(kid, locals))
		}
		require(len(values) <= api.MaxList, api.ErrTooLarge)
		return thing{kind: api.ValueList, list: values}
	}
	first := m.value(e.Kids[0], locals)
	switch e.Kind {
	case api.ExprIf:
		require(first.kind == api.ValueBool, api.ErrType)
		return m.value(e.Kids[2-first.number], locals)
	case api.ExprMatch:
		require(first.kind == api.ValueVariant, api.ErrType)
		for i, label := range e.Labels {
			if v, ok := first.parts[label.Name]; ok {
				return m.value(e.Kids[i+1], with(locals, label.Variable, v))
			}
		}
		panic(api.ErrType)
	}
	require(first.kind == api.ValueList, api.ErrType)
	accumulator := m.value(e.Kids[1], locals)
	for _, item := range first.list {
		accumulator = m.value(e.Kids[2], with(with(locals, e.Name, item), e.Text, accumulator))
	}
	return accumulator
}

// equal reports whether a value is the result that a thing should be.
func equal(v api.Value, want thing) bool {
	var names []string
	var items []thing
	switch want.kind {
	case api.ValueFunc:
		return v.Kind == api.ValueFunc && v.Number == 0 && v.Text == "" && len(v.Code) == 1 && v.Code[0].Kind == api.ExprFunc && same(v.Code[0].Labels, want.labels)
	case api.ValueList:
		items = want.list
	default:
		for _, name := range slices.Sorted(maps.Keys(want.parts)) {
			names, items = append(names, name), append(items, want.parts[name])
		}
	}
	if v.Kind != want.kind || v.Number != want.number || v.Text != want.text || !slices.Equal(v.Names, names) || len(v.Items) != len(items) || len(v.Code) > 0 {
		return false
	}
	for i := range items {
		if !equal(v.Items[i], items[i]) {
			return false
		}
	}
	return true
}
