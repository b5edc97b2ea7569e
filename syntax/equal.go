package syntax

import (
	"slices"

	"modcert/api"
)

// EqualTypes reports whether two types are equal.
func EqualTypes(a, b api.Type) bool {
	return a.Kind == b.Kind && a.Module == b.Module && a.Name == b.Name &&
		slices.EqualFunc(a.Args, b.Args, EqualTypes) && slices.EqualFunc(a.Fields, b.Fields, equalFields)
}

// EqualExprs reports whether two expressions are equal.
func EqualExprs(a, b api.Expr) bool {
	return a.Kind == b.Kind && a.Module == b.Module && a.Name == b.Name && a.Text == b.Text && a.Number == b.Number &&
		slices.EqualFunc(a.Types, b.Types, EqualTypes) && slices.EqualFunc(a.Labels, b.Labels, equalLabels) &&
		slices.EqualFunc(a.Kids, b.Kids, EqualExprs)
}

// EqualModules reports whether two modules are equal.
func EqualModules(a, b api.Module) bool {
	return a.Path == b.Path && slices.Equal(a.Imports, b.Imports) && slices.EqualFunc(a.Decls, b.Decls, equalDecls)
}

func equalFields(a, b api.Field) bool {
	return a.Name == b.Name && a.Optional == b.Optional && EqualTypes(a.Type, b.Type)
}

func equalLabels(a, b api.Label) bool {
	return a.Name == b.Name && a.Variable == b.Variable && a.Optional == b.Optional && EqualTypes(a.Type, b.Type)
}

func equalParams(a, b api.Param) bool {
	return a.Name == b.Name && a.Variance == b.Variance && EqualTypes(a.Bound, b.Bound)
}

func equalDecls(a, b api.Decl) bool {
	return a.Kind == b.Kind && a.Name == b.Name && a.Module == b.Module && a.Target == b.Target &&
		a.Exported == b.Exported && a.Deprecated == b.Deprecated && a.Note == b.Note &&
		slices.EqualFunc(a.Params, b.Params, equalParams) &&
		EqualTypes(a.Lower, b.Lower) && EqualTypes(a.Upper, b.Upper) && EqualTypes(a.Type, b.Type) &&
		EqualExprs(a.Expr, b.Expr)
}

// transparent reports whether the bounds of a type are its definition.
func transparent(d api.Decl) bool {
	return EqualTypes(d.Lower, d.Type) && EqualTypes(d.Upper, d.Type)
}
