package environ

import (
	"slices"

	"modcert/api"
	"modcert/syntax"
)

// Equal reports whether two environments are equal.
func Equal(a, b api.Env) bool {
	return slices.EqualFunc(a, b, equalInterfaces)
}

func equalInterfaces(a, b api.Interface) bool {
	return a.Path == b.Path && slices.EqualFunc(a.Types, b.Types, equalTypeEntries) && slices.EqualFunc(a.Values, b.Values, equalValueEntries) &&
		slices.EqualFunc(a.Aliases, b.Aliases, equalAliases) && slices.EqualFunc(a.Deprecated, b.Deprecated, equalNotes)
}

func equalTypeEntries(a, b api.TypeEntry) bool {
	return a.Name == b.Name && slices.EqualFunc(a.Params, b.Params, equalParams) &&
		syntax.EqualTypes(a.Lower, b.Lower) && syntax.EqualTypes(a.Upper, b.Upper)
}

func equalValueEntries(a, b api.ValueEntry) bool {
	return a.Name == b.Name && slices.EqualFunc(a.Params, b.Params, equalParams) && syntax.EqualTypes(a.Type, b.Type)
}

func equalParams(a, b api.Param) bool {
	return a.Name == b.Name && a.Variance == b.Variance && syntax.EqualTypes(a.Bound, b.Bound)
}

func equalAliases(a, b api.AliasEntry) bool {
	return a == b
}

func equalNotes(a, b api.Deprecation) bool {
	return a == b
}

// copyType returns a copy of a type: substituting nothing leaves it as it is, in new memory.
func copyType(t api.Type) api.Type {
	return syntax.Substitute(t, nil, nil)
}

func copyParam(p api.Param) api.Param {
	p.Bound = copyType(p.Bound)
	return p
}

func copyTypeEntry(e api.TypeEntry) api.TypeEntry {
	e.Params = copyEach(e.Params, copyParam)
	e.Lower, e.Upper = copyType(e.Lower), copyType(e.Upper)
	return e
}

func copyValueEntry(e api.ValueEntry) api.ValueEntry {
	e.Params = copyEach(e.Params, copyParam)
	e.Type = copyType(e.Type)
	return e
}

// copyInterface returns a copy that shares no memory with an interface.
func copyInterface(i api.Interface) api.Interface {
	i.Types = copyEach(i.Types, copyTypeEntry)
	i.Values = copyEach(i.Values, copyValueEntry)
	i.Aliases = slices.Clone(i.Aliases)
	i.Deprecated = slices.Clone(i.Deprecated)
	return i
}

// copyEach returns a list with copies of the elements of a list.
func copyEach[T any](list []T, duplicate func(T) T) []T {
	var copies []T
	for _, element := range list {
		copies = append(copies, duplicate(element))
	}
	return copies
}
