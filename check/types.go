package check

import (
	"slices"

	"modcert/api"
)

func basic(kind int) api.Type {
	return api.Type{Kind: kind}
}

// element returns the type of the elements of a list or of the result of a function, and none of none.
func element(t api.Type) api.Type {
	if t.Kind == api.TypeNone {
		return t
	}
	return t.Args[0]
}

// named returns the field, the case or the parameter with a name.
func named(fields []api.Field, name string) (api.Field, bool) {
	at := slices.IndexFunc(fields, func(f api.Field) bool { return f.Name == name })
	if at < 0 {
		return api.Field{}, false
	}
	return fields[at], true
}

// labelled reports whether there is a label with a name.
func labelled(labels []api.Label, name string) bool {
	return slices.ContainsFunc(labels, func(l api.Label) bool { return l.Name == name })
}

// optional returns the number of labels that are optional.
func optional(labels []api.Label) int {
	count := 0
	for _, label := range labels {
		if label.Optional {
			count++
		}
	}
	return count
}

// substituted returns a copy of a type with other types in place of variables.
func substituted(t api.Type, types map[string]api.Type) api.Type {
	if other, ok := types[t.Name]; ok && t.Kind == api.TypeVar {
		return other
	}
	result := t
	result.Args, result.Fields = nil, nil
	for _, argument := range t.Args {
		result.Args = append(result.Args, substituted(argument, types))
	}
	for _, field := range t.Fields {
		field.Type = substituted(field.Type, types)
		result.Fields = append(result.Fields, field)
	}
	return result
}
