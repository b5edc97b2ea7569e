package printer_test

import (
	"math/rand"
	"strings"
	"testing"

	"modcert/api"
	"modcert/printer"
	"modcert/sample"
)

var (
	anything = api.Type{Kind: api.TypeAny}
	nothing  = api.Type{Kind: api.TypeNone}
	integer  = api.Type{Kind: api.TypeInt}
	boolean  = api.Type{Kind: api.TypeBool}
	text     = api.Type{Kind: api.TypeText}
)

func list(t api.Type) api.Type {
	return api.Type{Kind: api.TypeList, Args: []api.Type{t}}
}

func record(fields ...api.Field) api.Type {
	return api.Type{Kind: api.TypeRecord, Fields: fields}
}

func variant(cases ...api.Field) api.Type {
	return api.Type{Kind: api.TypeVariant, Fields: cases}
}

func function(result api.Type, params ...api.Field) api.Type {
	return api.Type{Kind: api.TypeFunc, Args: []api.Type{result}, Fields: params}
}

func reference(module, name string, args ...api.Type) api.Type {
	return api.Type{Kind: api.TypeRef, Module: module, Name: name, Args: args}
}

func variable(name string) api.Type {
	return api.Type{Kind: api.TypeVar, Name: name}
}

func field(name string, t api.Type) api.Field {
	return api.Field{Name: name, Type: t}
}

func optional(name string, t api.Type) api.Field {
	return api.Field{Name: name, Type: t, Optional: true}
}

func number(n int) api.Expr {
	return api.Expr{Kind: api.ExprInt, Number: n}
}

func literal(s string) api.Expr {
	return api.Expr{Kind: api.ExprText, Text: s}
}

func local(name string) api.Expr {
	return api.Expr{Kind: api.ExprLocal, Name: name}
}

func value(module, name string, types ...api.Type) api.Expr {
	return api.Expr{Kind: api.ExprValue, Module: module, Name: name, Types: types}
}

// node returns an expression with a name, types, labels (separated by spaces) and kids.
func node(kind int, name string, types []api.Type, labels string, kids ...api.Expr) api.Expr {
	e := api.Expr{Kind: kind, Name: name, Types: types, Kids: kids}
	for _, label := range strings.Fields(labels) {
		e.Labels = append(e.Labels, api.Label{Name: label})
	}
	return e
}

func operation(name string, kids ...api.Expr) api.Expr {
	return node(api.ExprOp, name, nil, "", kids...)
}

func ascribe(e api.Expr, t api.Type) api.Expr {
	return node(api.ExprAscribe, "", []api.Type{t}, "", e)
}

func typeDecl(lower, upper, t api.Type) api.Decl {
	return api.Decl{Kind: api.DeclType, Name: "N", Lower: lower, Upper: upper, Type: t}
}

func valueDecl(t api.Type, e api.Expr, params ...api.Param) api.Decl {
	return api.Decl{Kind: api.DeclValue, Name: "v", Type: t, Expr: e, Params: params}
}

func module(decls ...api.Decl) api.Module {
	return api.Module{Path: "m/v1", Decls: decls}
}

func wantType(t *testing.T, want string, tree api.Type) {
	t.Helper()
	if got, err := printer.Type(tree); err != api.OK || got != want {
		t.Errorf("%v is %q with the error %d, not %q", tree, got, err, want)
	}
}

func wantExpr(t *testing.T, want string, tree api.Expr) {
	t.Helper()
	if got, err := printer.Expr(tree); err != api.OK || got != want {
		t.Errorf("%v is %q with the error %d, not %q", tree, got, err, want)
	}
}

func wantModule(t *testing.T, want string, tree api.Module) {
	t.Helper()
	if got, err := printer.Module(tree); err != api.OK || got != want {
		t.Errorf("%v is %q with the error %d, not %q", tree, got, err, want)
	}
}

// wrong checks that trees have an error, and no source.
func wrong[T any](t *testing.T, write func(T) (string, api.Errno), want api.Errno, trees ...T) {
	t.Helper()
	for i, tree := range trees {
		if source, err := write(tree); err != want || source != "" {
			t.Errorf("tree %d has the error %d and the source %.100q, not the error %d", i, err, source, want)
		}
	}
}

// random returns choices of a random source.
func random(seed int64) sample.Choice {
	return rand.New(rand.NewSource(seed)).Intn
}
