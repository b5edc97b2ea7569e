package extract

import (
	"slices"

	"modcert/api"
	"modcert/lexer"
	"modcert/syntax"
)

// interfaceFormed reports whether an interface has its form.
func interfaceFormed(i api.Interface) bool {
	return lexer.IsPath(i.Path) &&
		len(i.Types)+len(i.Values)+len(i.Aliases) <= api.MaxDecls &&
		increasing(i.Types, func(e api.TypeEntry) string { return e.Name }) &&
		increasing(i.Values, func(e api.ValueEntry) string { return e.Name }) &&
		increasing(i.Aliases, func(e api.AliasEntry) string { return e.Name }) &&
		increasing(i.Deprecated, func(e api.Deprecation) string { return e.Name }) &&
		all(i.Types, typeFormed) && all(i.Values, valueFormed) && all(i.Aliases, aliasFormed) && all(i.Deprecated, noteFormed)
}

// increasing reports whether the names of the elements of a list increase strictly.
func increasing[T any](list []T, name func(T) string) bool {
	for k := 1; k < len(list); k++ {
		if name(list[k-1]) >= name(list[k]) {
			return false
		}
	}
	return true
}

func all[T any](list []T, formed func(T) bool) bool {
	return !slices.ContainsFunc(list, func(element T) bool { return !formed(element) })
}

func typeFormed(e api.TypeEntry) bool {
	params := paramsFormed(e.Params, func(_ int, p api.Param) bool {
		known := p.Variance == api.Covariant || p.Variance == api.Contravariant || p.Variance == api.Invariant
		return known && syntax.EqualTypes(p.Bound, api.Type{Kind: api.TypeAny})
	})
	return lexer.IsType(e.Name) && params && formed(e.Lower, len(e.Params)) && formed(e.Upper, len(e.Params))
}

func valueFormed(e api.ValueEntry) bool {
	params := paramsFormed(e.Params, func(k int, p api.Param) bool { return p.Variance == 0 && formed(p.Bound, k) })
	return lexer.IsName(e.Name) && params && formed(e.Type, len(e.Params))
}

func aliasFormed(e api.AliasEntry) bool {
	values := lexer.IsName(e.Name) && lexer.IsName(e.Target)
	types := lexer.IsType(e.Name) && lexer.IsType(e.Target)
	return lexer.IsPath(e.Module) && (values || types)
}

func noteFormed(e api.Deprecation) bool {
	return (lexer.IsName(e.Name) || lexer.IsType(e.Name)) && len(e.Note) <= api.MaxText
}

// paramsFormed reports whether there are not too many parameters, and each has the name of its index and is as a function tells.
func paramsFormed(params []api.Param, formed func(index int, p api.Param) bool) bool {
	if len(params) > api.MaxParams {
		return false
	}
	for k, param := range params {
		if param.Name != variable(k) || !formed(k, param) {
			return false
		}
	}
	return true
}

// formed reports whether a type has its form, with some of the first parameters as variables, and with paths as modules.
func formed(t api.Type, params int) bool {
	if syntax.CheckType(t) != api.OK || !absolute(t) {
		return false
	}
	var variables []string
	for k := range params {
		variables = append(variables, variable(k))
	}
	return all(syntax.Free(t), func(name string) bool { return slices.Contains(variables, name) })
}
