package printer

import (
	"modcert/api"
	"modcert/syntax"
)

func (w *writer) writeModule(m api.Module) {
	w.WriteString("module " + m.Path + "\n")
	for _, i := range m.Imports {
		w.WriteString("import " + i.Path + " as " + i.Alias + "\n")
	}
	for _, d := range m.Decls {
		w.writeDecl(d)
		w.WriteString("\n")
	}
}

func (w *writer) writeDecl(d api.Decl) {
	if d.Exported {
		w.WriteString("export ")
	}
	if d.Deprecated {
		w.WriteString("deprecated ")
		w.literal(d.Note)
		w.WriteString(" ")
	}
	switch d.Kind {
	case api.DeclType:
		w.typeDecl(d)
	case api.DeclValue:
		w.valueDecl(d)
	case api.DeclUse:
		w.WriteString("use " + d.Module + "::" + d.Target + " as " + d.Name)
	}
}

func (w *writer) typeDecl(d api.Decl) {
	variances := [...]string{api.Covariant: "+", api.Contravariant: "-", api.Invariant: "="}
	w.WriteString("type " + d.Name)
	w.params(d.Params, func(x api.Param) { w.WriteString(variances[x.Variance] + x.Name) })
	if !transparent(d) {
		w.bounds(d.Lower, d.Upper)
	}
	w.WriteString(" = ")
	w.writeType(d.Type)
}

// transparent reports whether the bounds of a type are its definition.
func transparent(d api.Decl) bool {
	return syntax.EqualTypes(d.Lower, d.Type) && syntax.EqualTypes(d.Upper, d.Type)
}

// bounds writes the bounds of a type but those that go without saying. One is left, because a type without bounds is transparent.
func (w *writer) bounds(lower, upper api.Type) {
	if lower.Kind != api.TypeNone {
		w.bound(" >: ", lower)
	}
	if upper.Kind != api.TypeAny || lower.Kind == api.TypeNone {
		w.bound(" <: ", upper)
	}
}

func (w *writer) bound(symbol string, t api.Type) {
	w.WriteString(symbol)
	w.writeType(t)
}

// params writes parameters or variables in brackets, if there are any.
func (w *writer) params(params []api.Param, param func(x api.Param)) {
	if len(params) == 0 {
		return
	}
	w.WriteString("[")
	w.list(", ", len(params), func(i int) { param(params[i]) })
	w.WriteString("]")
}

func (w *writer) valueDecl(d api.Decl) {
	w.WriteString("let " + d.Name)
	w.params(d.Params, func(x api.Param) {
		w.WriteString(x.Name)
		if x.Bound.Kind != api.TypeAny {
			w.bound(" <: ", x.Bound)
		}
	})
	w.WriteString(": ")
	w.writeType(d.Type)
	w.WriteString(" = ")
	w.writeExpr(d.Expr)
}
