package syntax

import (
	"slices"

	"modcert/api"
)

// replacement returns the type that stands for a variable, if there is one.
type replacement func(variable string) (api.Type, bool)

// Substitute returns a type with types in place of variables.
func Substitute(t api.Type, names []string, types []api.Type) api.Type {
	return replaced(t, func(variable string) (api.Type, bool) {
		i := slices.Index(names, variable)
		if i < 0 || i >= len(types) {
			return api.Type{}, false
		}
		return types[i], true
	})
}

// replaced returns a type in which variables are replaced. All of it is new memory.
func replaced(t api.Type, find replacement) api.Type {
	if t.Kind == api.TypeVar {
		if other, ok := find(t.Name); ok {
			return replaced(other, nothing)
		}
	}
	args, fields := t.Args, t.Fields
	t.Args, t.Fields = nil, nil
	for _, argument := range args {
		t.Args = append(t.Args, replaced(argument, find))
	}
	for _, field := range fields {
		field.Type = replaced(field.Type, find)
		t.Fields = append(t.Fields, field)
	}
	return t
}

// nothing is the replacement that leaves all variables as they are.
func nothing(string) (api.Type, bool) {
	return api.Type{}, false
}
