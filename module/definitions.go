package module

import (
	"modcert/api"
	"modcert/check"
	"modcert/subtype"
)

// bounds finds out whether the definition of a type stands between its bounds.
func (c checker) bounds(d api.Decl) api.Errno {
	if d.Kind != api.DeclType {
		return api.OK
	}
	return increasing(c.inside, d, d.Lower, d.Type, d.Upper)
}

// boundsForOthers finds out whether the bounds of a type are consistent for those who do not see its definition.
func (c checker) boundsForOthers(d api.Decl) api.Errno {
	if d.Kind != api.DeclType || !d.Exported {
		return api.OK
	}
	return increasing(c.outside, d, d.Lower, d.Upper)
}

// increasing finds out whether each of some types of a declaration is a subtype of the next one.
func increasing(env api.Env, d api.Decl, types ...api.Type) api.Errno {
	for i := range len(types) - 1 {
		if !subtype.Is(env, d.Params, types[i], types[i+1]) { // parameters of types have the bound any
			return api.ErrBound
		}
	}
	return api.OK
}

// expression finds the error of the expression of a value.
func (c checker) expression(d api.Decl) api.Errno {
	if d.Kind != api.DeclValue {
		return api.OK
	}
	return check.Against(c.inside, d.Params, nil, d.Expr, d.Type)
}
