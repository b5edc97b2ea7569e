package wellformed

import (
	"slices"
	"strconv"

	"modcert/api"
	"modcert/environ"
	"modcert/lexer"
	"modcert/syntax"
)

// checker checks the interface of a module in an environment.
type checker struct {
	env    api.Env
	i      api.Interface
	find   entries
	family family
}

func newChecker(env api.Env, i api.Interface, find entries) checker {
	return checker{env, i, find, familyOf(i)}
}

// firstError returns the name and the error of the first check that fails.
func (c checker) firstError() (string, api.Errno) {
	checks := []func() (string, api.Errno){c.head, c.order, c.collisions, c.types, c.values, c.aliases, c.notes}
	for _, check := range checks {
		if name, err := check(); err != api.OK {
			return name, err
		}
	}
	return "", api.OK
}

// entryError returns the error of the entry with a name.
func (c checker) entryError(name string) api.Errno {
	named := func(other string) bool { return other == name }
	if at := slices.IndexFunc(typeNames(c.i), named); at >= 0 {
		return c.typeEntry(c.i.Types[at])
	}
	if at := slices.IndexFunc(valueNames(c.i), named); at >= 0 {
		return c.valueEntry(c.i.Values[at])
	}
	if at := slices.IndexFunc(aliasNames(c.i), named); at >= 0 {
		return c.aliasEntry(c.i.Aliases[at])
	}
	return api.ErrNotFound
}

// namesOf returns the names of the elements of a list.
func namesOf[T any](list []T, name func(T) string) []string {
	var names []string
	for _, element := range list {
		names = append(names, name(element))
	}
	return names
}

func typeNames(i api.Interface) []string {
	return namesOf(i.Types, func(e api.TypeEntry) string { return e.Name })
}

func valueNames(i api.Interface) []string {
	return namesOf(i.Values, func(e api.ValueEntry) string { return e.Name })
}

func aliasNames(i api.Interface) []string {
	return namesOf(i.Aliases, func(e api.AliasEntry) string { return e.Name })
}

func noteNames(i api.Interface) []string {
	return namesOf(i.Deprecated, func(e api.Deprecation) string { return e.Name })
}

// isEither reports whether a string is a name of a value or of a type.
func isEither(s string) bool {
	return lexer.IsName(s) || lexer.IsType(s)
}

// firstOf returns the name and the error of the first element that has an error.
func firstOf(names []string, check func(at int) api.Errno) (string, api.Errno) {
	for at, name := range names {
		if err := check(at); err != api.OK {
			return name, err
		}
	}
	return "", api.OK
}

func (c checker) head() (string, api.Errno) {
	if !lexer.IsPath(c.i.Path) {
		return "", api.ErrName
	}
	if len(c.i.Types)+len(c.i.Values)+len(c.i.Aliases) > api.MaxDecls {
		return "", api.ErrTooLarge
	}
	return "", api.OK
}

func (c checker) order() (string, api.Errno) {
	lists := []struct {
		names []string
		valid func(s string) bool
	}{{typeNames(c.i), lexer.IsType}, {valueNames(c.i), lexer.IsName}, {aliasNames(c.i), isEither}, {noteNames(c.i), isEither}}
	for _, list := range lists {
		name, err := firstOf(list.names, func(at int) api.Errno { return nameError(list.names, at, list.valid) })
		if err != api.OK {
			return name, err
		}
	}
	return "", api.OK
}

// nameError returns the error of a name behind the one before it.
func nameError(names []string, at int, valid func(s string) bool) api.Errno {
	switch {
	case !valid(names[at]):
		return api.ErrName
	case at == 0:
		return api.OK
	case names[at] == names[at-1]:
		return api.ErrExists
	case names[at] < names[at-1]:
		return api.ErrArg
	}
	return api.OK
}

func (c checker) collisions() (string, api.Errno) {
	types, values, aliases := typeNames(c.i), valueNames(c.i), aliasNames(c.i)
	later := slices.Concat(values, aliases)
	return firstOf(later, func(at int) api.Errno {
		isAlias := at >= len(values)
		if slices.Contains(types, later[at]) || isAlias && slices.Contains(values, later[at]) {
			return api.ErrExists
		}
		return api.OK
	})
}

func (c checker) types() (string, api.Errno) {
	return firstOf(typeNames(c.i), func(at int) api.Errno { return c.typeEntry(c.i.Types[at]) })
}

func (c checker) values() (string, api.Errno) {
	return firstOf(valueNames(c.i), func(at int) api.Errno { return c.valueEntry(c.i.Values[at]) })
}

func (c checker) aliases() (string, api.Errno) {
	return firstOf(aliasNames(c.i), func(at int) api.Errno { return c.aliasEntry(c.i.Aliases[at]) })
}

func (c checker) notes() (string, api.Errno) {
	exported := environ.Exports(c.i)
	return firstOf(noteNames(c.i), func(at int) api.Errno {
		note := c.i.Deprecated[at]
		if !slices.Contains(exported, note.Name) {
			return api.ErrNotFound
		}
		if len(note.Note) > api.MaxText {
			return api.ErrTooLarge
		}
		return api.OK
	})
}

// paramsError returns the error of a list of parameters, without that of their bounds.
func paramsError(params []api.Param, formed func(param api.Param) bool) api.Errno {
	if len(params) > api.MaxParams {
		return api.ErrTooLarge
	}
	for i, param := range params {
		if param.Name != "#"+strconv.Itoa(i) {
			return api.ErrName
		}
		if !formed(param) {
			return api.ErrArg
		}
	}
	return api.OK
}

func paramNames(params []api.Param) []string {
	return namesOf(params, func(param api.Param) string { return param.Name })
}

// formedParameter reports whether a parameter of a type has one of the variances, and no bound.
func formedParameter(param api.Param) bool {
	variances := []int{api.Covariant, api.Contravariant, api.Invariant}
	return slices.Contains(variances, param.Variance) && syntax.EqualTypes(param.Bound, api.Type{Kind: api.TypeAny})
}

// formedVariable reports whether a variable of a value has no variance.
func formedVariable(param api.Param) bool {
	return param.Variance == 0
}

func (c checker) typeEntry(e api.TypeEntry) api.Errno {
	if err := paramsError(e.Params, formedParameter); err != api.OK {
		return err
	}
	bounds := []api.Type{e.Lower, e.Upper}
	for _, bound := range bounds {
		if err := c.find.typeError(paramNames(e.Params), bound); err != api.OK {
			return err
		}
	}
	for _, bound := range bounds {
		if !c.find.respects(e.Params, bound) {
			return api.ErrVariance
		}
	}
	if c.family.loops(e) {
		return api.ErrLoop
	}
	return api.OK
}

func (c checker) valueEntry(e api.ValueEntry) api.Errno {
	if err := paramsError(e.Params, formedVariable); err != api.OK {
		return err
	}
	variables := paramNames(e.Params)
	for i, param := range e.Params {
		if err := c.find.typeError(variables[:i], param.Bound); err != api.OK {
			return err
		}
	}
	return c.find.typeError(variables, e.Type)
}

func (c checker) aliasEntry(e api.AliasEntry) api.Errno {
	switch {
	case lexer.IsType(e.Name) && lexer.IsType(e.Target):
		return c.find(api.Use{Module: e.Module, Name: e.Target}).err
	case lexer.IsName(e.Name) && lexer.IsName(e.Target):
		_, _, err := environ.Value(c.env, e.Module, e.Target)
		return err
	}
	return api.ErrName
}
