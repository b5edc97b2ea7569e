package syntax

import (
	"modcert/api"
	"modcert/lexer"
)

// CheckModule returns the index of the first declaration whose form is wrong (-1: the module itself), and the error.
func CheckModule(m api.Module) (int, api.Errno) {
	if err := checkHead(m); err != api.OK {
		return -1, err
	}
	declared := map[string]bool{}
	for i, d := range m.Decls {
		if err := checkDecl(d, declared); err != api.OK {
			return i, err
		}
		declared[d.Name] = true
	}
	return 0, api.OK
}

// checkHead returns the error of a module without its declarations.
func checkHead(m api.Module) api.Errno {
	if !lexer.IsPath(m.Path) {
		return api.ErrName
	}
	if len(m.Imports) > api.MaxImports || len(m.Decls) > api.MaxDecls || moduleSize(m, api.MaxNodes) > api.MaxNodes {
		return api.ErrTooLarge
	}
	paths, aliases := map[string]bool{}, map[string]bool{}
	for _, i := range m.Imports {
		switch {
		case !lexer.IsPath(i.Path) || !lexer.IsName(i.Alias):
			return api.ErrName
		case i.Path == m.Path:
			return api.ErrLoop
		case paths[i.Path] || aliases[i.Alias]:
			return api.ErrExists
		}
		paths[i.Path], aliases[i.Alias] = true, true
	}
	return api.OK
}

// checkDecl returns the error of a declaration behind those whose names are declared.
func checkDecl(d api.Decl, declared map[string]bool) api.Errno {
	switch {
	case !namedDeclParts(d) || !namedParamParts(d) || d.Deprecated && !d.Exported || d.Note != "" && !d.Deprecated:
		return api.ErrArg
	case len(d.Params) > api.MaxParams || len(d.Note) > api.MaxText:
		return api.ErrTooLarge
	case !declNames(d):
		return api.ErrName
	case declared[d.Name] || repeatedParam(d.Params):
		return api.ErrExists
	}
	types := []api.Type{d.Lower, d.Upper, d.Type}
	for _, param := range d.Params {
		types = append(types, param.Bound)
	}
	for _, t := range types {
		if err := CheckType(t); err != api.OK {
			return err
		}
	}
	return CheckExpr(d.Expr)
}

// namedDeclParts reports whether a declaration has a known kind, and nothing beside what the form of its kind names: what is left without it is zero.
func namedDeclParts(d api.Decl) bool {
	rest := d
	rest.Kind, rest.Name, rest.Exported, rest.Deprecated, rest.Note = 0, "", false, false, ""
	switch d.Kind {
	case api.DeclType:
		rest.Params, rest.Lower, rest.Upper, rest.Type = nil, api.Type{}, api.Type{}, api.Type{}
	case api.DeclValue:
		rest.Params, rest.Type, rest.Expr = nil, api.Type{}, api.Expr{}
	case api.DeclUse:
		rest.Module, rest.Target = "", ""
	default:
		return false
	}
	return equalDecls(rest, api.Decl{})
}

// namedParamParts does the same for the parameters of a declaration.
func namedParamParts(d api.Decl) bool {
	for _, rest := range d.Params {
		rest.Name = ""
		switch d.Kind {
		case api.DeclType:
			if isVariance(rest.Variance) {
				rest.Variance = 0
			}
		case api.DeclValue:
			rest.Bound = api.Type{}
		}
		if !equalParams(rest, api.Param{}) {
			return false
		}
	}
	return true
}

func isVariance(n int) bool {
	return n == api.Covariant || n == api.Contravariant || n == api.Invariant
}

// declNames reports whether the names of a declaration are as in the form of its kind.
func declNames(d api.Decl) bool {
	for _, param := range d.Params {
		if !lexer.IsType(param.Name) {
			return false
		}
	}
	switch d.Kind {
	case api.DeclType:
		return lexer.IsType(d.Name)
	case api.DeclValue:
		return lexer.IsName(d.Name)
	}
	values := lexer.IsName(d.Name) && lexer.IsName(d.Target)
	types := lexer.IsType(d.Name) && lexer.IsType(d.Target)
	return isModule(d.Module) && (values || types)
}

func repeatedParam(params []api.Param) bool {
	names := map[string]bool{}
	for _, param := range params {
		if names[param.Name] {
			return true
		}
		names[param.Name] = true
	}
	return false
}
