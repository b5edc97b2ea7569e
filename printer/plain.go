package printer

import (
	"slices"

	"modcert/api"
	"modcert/lexer"
	"modcert/syntax"
)

// plainType reports whether a type has neither variables nor paths of modules.
func plainType(t api.Type) bool {
	inPath := func(use api.Use) bool { return lexer.IsPath(use.Module) }
	return len(syntax.Free(t)) == 0 && !slices.ContainsFunc(syntax.Mentions(t), inPath)
}

// plainExpr reports whether all types of an expression are plain, and all values have an alias as Module, or Types alone.
func plainExpr(e api.Expr) bool {
	if lexer.IsPath(e.Module) || e.Kind == api.ExprValue && e.Module == "" && len(e.Types) == 0 {
		return false
	}
	for _, t := range e.Types {
		if !plainType(t) {
			return false
		}
	}
	for _, label := range e.Labels {
		if !plainType(label.Type) {
			return false
		}
	}
	for _, kid := range e.Kids {
		if !plainExpr(kid) {
			return false
		}
	}
	return true
}

func plainModule(m api.Module) bool {
	for _, d := range m.Decls {
		if !plainDecl(d) {
			return false
		}
	}
	return true
}

func plainDecl(d api.Decl) bool {
	for _, param := range d.Params {
		if !plainType(param.Bound) {
			return false
		}
	}
	return !lexer.IsPath(d.Module) && plainType(d.Lower) && plainType(d.Upper) && plainType(d.Type) && plainExpr(d.Expr)
}
