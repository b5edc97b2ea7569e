package extract

import (
	"strconv"

	"modcert/api"
	"modcert/lexer"
	"modcert/syntax"
)

// resolved reports whether the modules in a declaration are paths, as far as its entry can show them.
func resolved(d api.Decl) bool {
	if d.Kind == api.DeclUse {
		return lexer.IsPath(d.Module)
	}
	if !absolute(d.Lower) || !absolute(d.Upper) || !absolute(d.Type) {
		return false
	}
	for _, param := range d.Params {
		if !absolute(param.Bound) {
			return false
		}
	}
	return true
}

// absolute reports whether the modules of the references in a type are paths.
func absolute(t api.Type) bool {
	for _, use := range syntax.Mentions(t) {
		if !lexer.IsPath(use.Module) {
			return false
		}
	}
	return true
}

// add adds the entry of a declaration to an interface.
func add(i *api.Interface, d api.Decl) {
	named := numbering(d.Params)
	var params []api.Param
	for k, param := range d.Params {
		params = append(params, api.Param{Name: variable(k), Variance: param.Variance, Bound: named(param.Bound)})
	}
	switch d.Kind {
	case api.DeclType:
		i.Types = append(i.Types, api.TypeEntry{Name: d.Name, Params: params, Lower: named(d.Lower), Upper: named(d.Upper)})
	case api.DeclValue:
		i.Values = append(i.Values, api.ValueEntry{Name: d.Name, Params: params, Type: named(d.Type)})
	case api.DeclUse:
		i.Aliases = append(i.Aliases, api.AliasEntry{Name: d.Name, Module: d.Module, Target: d.Target})
	}
	if d.Deprecated {
		i.Deprecated = append(i.Deprecated, api.Deprecation{Name: d.Name, Note: d.Note})
	}
}

// numbering returns a function that gives the parameters in a type the names of their indexes.
func numbering(params []api.Param) func(t api.Type) api.Type {
	var names []string
	var variables []api.Type
	for k, param := range params {
		names = append(names, param.Name)
		variables = append(variables, api.Type{Kind: api.TypeVar, Name: variable(k)})
	}
	return func(t api.Type) api.Type { return syntax.Substitute(t, names, variables) }
}

// variable returns the name of the parameter with an index.
func variable(index int) string {
	return "#" + strconv.Itoa(index)
}
