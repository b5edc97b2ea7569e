package author

import (
	"modcert/api"
	"modcert/environ"
)

func list(t api.Type) api.Type {
	return api.Type{Kind: api.TypeList, Args: []api.Type{t}}
}

// someNames returns names of fields and local variables, in increasing order.
func someNames() []string {
	return []string{"a", "b", "c", "x"}
}

func (a author) name() string {
	names := someNames()
	return names[a.choose(len(names))]
}

func (a author) fields(levels int) []api.Field {
	var fields []api.Field
	for _, name := range someNames() {
		if a.choose(3) == 0 {
			fields = append(fields, api.Field{Name: name, Type: a.typed(levels)})
		}
	}
	return fields
}

// typed returns a type with the variables of the context.
func (a author) typed(levels int) api.Type {
	kind := a.choose(15)
	if levels == 0 {
		kind = a.choose(11)
	}
	switch kind {
	case 0, 1, 2, 3, 4:
		return api.Type{Kind: []int{api.TypeInt, api.TypeText, api.TypeBool, api.TypeInt, api.TypeAny}[kind]}
	case 11:
		return list(a.typed(levels - 1))
	case 12:
		return api.Type{Kind: api.TypeRecord, Fields: a.fields(levels - 1)}
	case 13:
		return api.Type{Kind: api.TypeVariant, Fields: a.fields(levels - 1)}
	case 14:
		t := api.Type{Kind: api.TypeFunc, Fields: a.fields(levels - 1), Args: []api.Type{a.typed(levels - 1)}}
		for i := range t.Fields {
			t.Fields[i].Optional = a.choose(2) == 0
		}
		return t
	}
	if len(a.context) > 0 && a.choose(2) == 0 {
		return api.Type{Kind: api.TypeVar, Name: a.context[a.choose(len(a.context))].Name}
	}
	return a.reference(levels)
}

// reference returns a reference to a type of the environment, if there is one.
func (a author) reference(levels int) api.Type {
	if len(a.types) == 0 {
		return api.Type{Kind: api.TypeInt}
	}
	use := a.types[a.choose(len(a.types))]
	entry, _, _ := environ.Type(a.env, use.Module, use.Name)
	t := api.Type{Kind: api.TypeRef, Module: use.Module, Name: use.Name}
	for range entry.Params {
		argument := api.Type{Kind: a.choose(api.TypeText + 1)}
		if levels > 0 {
			argument = a.typed(levels - 1)
		}
		t.Args = append(t.Args, argument)
	}
	return t
}

// moved returns a type that is often a supertype (up), or a subtype, of another one.
func (a author) moved(t api.Type, up bool, levels int) api.Type {
	switch {
	case a.choose(40) == 0:
		return a.typed(1)
	case a.choose(8) == 0 && up:
		return api.Type{}
	case a.choose(8) == 0:
		return api.Type{Kind: api.TypeNone}
	case levels == 0 || a.choose(4) == 0:
		return t
	}
	if lower, upper, err := environ.Bounds(a.env, t); err == api.OK {
		if !up {
			upper = lower
		}
		return a.moved(upper, up, levels-1)
	}
	result := api.Type{Kind: t.Kind, Name: t.Name}
	for _, part := range t.Args {
		result.Args = append(result.Args, a.moved(part, up, levels-1))
	}
	for _, f := range t.Fields {
		// A supertype has fewer fields, a subtype fewer cases, and either of both may have fewer optional parameters.
		fewer := t.Kind == api.TypeRecord && up || t.Kind == api.TypeVariant && !up || t.Kind == api.TypeFunc && up && f.Optional
		if fewer && a.choose(4) == 0 {
			continue
		}
		f.Type = a.moved(f.Type, up != (t.Kind == api.TypeFunc), levels-1)
		if t.Kind == api.TypeFunc && a.choose(4) == 0 {
			f.Optional = !up
		}
		result.Fields = append(result.Fields, f)
	}
	return result
}
