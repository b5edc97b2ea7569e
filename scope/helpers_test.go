package scope_test

import (
	"math/rand"
	"reflect"
	"strconv"
	"strings"
	"testing"

	"modcert/api"
	"modcert/parser"
)

// head begins the modules of the tests.
const head = "module m/v1 import a/v1 as a import b/c/v2 as b "

// parsed returns the tree of the source of a module.
func parsed(source string) api.Module {
	m, at, err := parser.Module(source)
	if err != api.OK {
		panic(source[:at] + " [here] " + source[at:] + ": " + strconv.Itoa(int(err)))
	}
	return m
}

// renaming changes the names of a tree wherever they stand: it is passed pointers to the nodes of a copy.
type renaming struct {
	decl  func(d *api.Decl)
	typed func(t *api.Type)
	expr  func(e *api.Expr)
}

// apply returns a copy of a module with changed names.
func (r renaming) apply(m api.Module) api.Module {
	m = duplicate(m)
	for i := range m.Decls {
		d := &m.Decls[i]
		r.decl(d)
		for k := range d.Params {
			r.applyType(&d.Params[k].Bound)
		}
		r.applyType(&d.Lower)
		r.applyType(&d.Upper)
		r.applyType(&d.Type)
		r.applyExpr(&d.Expr)
	}
	return m
}

func (r renaming) applyType(t *api.Type) {
	r.typed(t)
	for i := range t.Args {
		r.applyType(&t.Args[i])
	}
	for i := range t.Fields {
		r.applyType(&t.Fields[i].Type)
	}
}

func (r renaming) applyExpr(e *api.Expr) {
	r.expr(e)
	for i := range e.Types {
		r.applyType(&e.Types[i])
	}
	for i := range e.Labels {
		r.applyType(&e.Labels[i].Type)
	}
	for i := range e.Kids {
		r.applyExpr(&e.Kids[i])
	}
}

// absolute returns a resolved tree from its notation as a source: V_X is the variable X (V_0 is #0), m_v1::N stands for N of m/v1, b_c_v2 for b/c/v2, and names without a module are local variables.
func absolute(source string) api.Module {
	path := func(alias string) string { return strings.ReplaceAll(alias, "_", "/") }
	return renaming{
		func(d *api.Decl) { d.Module = path(d.Module) },
		func(t *api.Type) {
			name, isVariable := strings.CutPrefix(t.Name, "V_")
			switch {
			case isVariable && name == "0":
				*t = api.Type{Kind: api.TypeVar, Name: "#0"}
			case isVariable:
				*t = api.Type{Kind: api.TypeVar, Name: name}
			default:
				t.Module = path(t.Module)
			}
		},
		func(e *api.Expr) { e.Module = path(e.Module) },
	}.apply(parsed(source))
}

// fill gives a value random contents, of at most so many levels, from a few names, so that they refer to each other now and then.
func fill(r *rand.Rand, v reflect.Value, levels int) {
	switch v.Kind() {
	case reflect.Int:
		v.SetInt(int64(r.Intn(18) - 1))
	case reflect.Bool:
		v.SetBool(r.Intn(3) == 0)
	case reflect.String:
		v.SetString([]string{"", "a", "b", "A", "B", "#0", "a/v1", "b/v1"}[r.Intn(8)])
	case reflect.Slice:
		size := 0
		if levels > 0 {
			size = r.Intn(4)
		}
		v.Set(reflect.MakeSlice(v.Type(), size, size))
		for i := range size {
			fill(r, v.Index(i), levels-1)
		}
	case reflect.Struct:
		for i := range v.NumField() {
			fill(r, v.Field(i), levels-1)
		}
	}
}

// random returns a random tree, with or without its form.
func random[T any](r *rand.Rand, levels int) T {
	var result T
	fill(r, reflect.ValueOf(&result).Elem(), levels)
	return result
}

// duplicate returns a copy that shares no memory with a tree. Empty lists become nil.
func duplicate[T any](tree T) T {
	var result T
	duplicateTo(reflect.ValueOf(&result).Elem(), reflect.ValueOf(tree))
	return result
}

func duplicateTo(to, from reflect.Value) {
	switch from.Kind() {
	case reflect.Slice:
		if from.Len() > 0 {
			to.Set(reflect.MakeSlice(from.Type(), from.Len(), from.Len()))
		}
		for i := range from.Len() {
			duplicateTo(to.Index(i), from.Index(i))
		}
	case reflect.Struct:
		for i := range from.NumField() {
			duplicateTo(to.Field(i), from.Field(i))
		}
	default:
		to.Set(from)
	}
}

// same reports whether two trees are equal, by reflection.
func same[T any](a, b T) bool {
	return reflect.DeepEqual(duplicate(a), duplicate(b))
}

// memory adds the addresses of all lists of a value that are not empty, and reports whether each was new.
func memory(v reflect.Value, known map[uintptr]bool) bool {
	fresh := true
	switch v.Kind() {
	case reflect.Slice:
		if v.Len() > 0 {
			fresh = !known[v.Pointer()]
			known[v.Pointer()] = true
		}
		for i := range v.Len() {
			fresh = memory(v.Index(i), known) && fresh
		}
	case reflect.Struct:
		for i := range v.NumField() {
			fresh = memory(v.Field(i), known) && fresh
		}
	}
	return fresh
}

// checkNew checks that a result shares no memory with an argument, and that its parts share none.
func checkNew(t *testing.T, what string, argument, result any) {
	t.Helper()
	known := map[uintptr]bool{}
	memory(reflect.ValueOf(argument), known)
	if !memory(reflect.ValueOf(result), known) {
		t.Fatalf("%s shares memory", what)
	}
}
