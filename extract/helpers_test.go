package extract_test

import (
	"math/rand"
	"reflect"
	"strconv"
	"testing"

	"modcert/api"
	"modcert/parser"
	"modcert/sample"
	"modcert/scope"
)

var (
	anything = api.Type{Kind: api.TypeAny}
	nothing  = api.Type{Kind: api.TypeNone}
	integer  = api.Type{Kind: api.TypeInt}
	text     = api.Type{Kind: api.TypeText}
)

func variable(name string) api.Type {
	return api.Type{Kind: api.TypeVar, Name: name}
}

func reference(module, name string, args ...api.Type) api.Type {
	return api.Type{Kind: api.TypeRef, Module: module, Name: name, Args: args}
}

func list(t api.Type) api.Type {
	return api.Type{Kind: api.TypeList, Args: []api.Type{t}}
}

func record(fields ...api.Field) api.Type {
	return api.Type{Kind: api.TypeRecord, Fields: fields}
}

func field(name string, t api.Type) api.Field {
	return api.Field{Name: name, Type: t}
}

func function(result api.Type, params ...api.Field) api.Type {
	return api.Type{Kind: api.TypeFunc, Fields: params, Args: []api.Type{result}}
}

// resolved returns the resolved tree of the source of a module.
func resolved(source string) api.Module {
	m, at, err := parser.Module(source)
	if err != api.OK {
		panic(source[:at] + " [here] " + source[at:])
	}
	m, at, err = scope.Resolve(m)
	if err != api.OK {
		panic(source + ": " + strconv.Itoa(at))
	}
	return m
}

// randomModule returns a module that has its form. Its names have no meaning, and its references are paths.
func randomModule(r *rand.Rand) api.Module {
	m := sample.Choice(r.Intn).Module(3)
	for i := range m.Decls {
		d := &m.Decls[i]
		var variables []string
		if d.Kind == api.DeclUse {
			d.Module = somePath(r)
		}
		for k := range d.Params {
			d.Params[k].Bound = placed(r, d.Params[k].Bound, variables)
			variables = append(variables, d.Params[k].Name)
		}
		d.Type = placed(r, d.Type, variables)
		d.Lower, d.Upper = placed(r, d.Lower, variables), placed(r, d.Upper, variables)
	}
	return m
}

func somePath(r *rand.Rand) string {
	return []string{"m/v1", "lib/v0", "geo/shapes/v12"}[r.Intn(3)]
}

// placed returns a type with paths as modules, and sometimes a variable in place of a reference.
func placed(r *rand.Rand, t api.Type, variables []string) api.Type {
	t = duplicate(t)
	if t.Kind == api.TypeRef {
		if len(variables) > 0 && r.Intn(2) == 0 {
			return variable(variables[r.Intn(len(variables))])
		}
		t.Module = somePath(r)
	}
	for i, part := range t.Args {
		t.Args[i] = placed(r, part, variables)
	}
	for i, part := range t.Fields {
		t.Fields[i].Type = placed(r, part.Type, variables)
	}
	return t
}

// fill gives a value random contents, of at most so many levels, from a few names, so that they refer to each other now and then.
func fill(r *rand.Rand, v reflect.Value, levels int) {
	switch v.Kind() {
	case reflect.Int:
		v.SetInt(int64(r.Intn(14) - 1))
	case reflect.Bool:
		v.SetBool(r.Intn(3) == 0)
	case reflect.String:
		v.SetString([]string{"a", "b", "A", "B", "#0", "a/v1", "b/v1"}[r.Intn(7)])
	case reflect.Slice:
		size := 0
		if levels > 0 {
			size = r.Intn(4)
		}
		v.Set(reflect.MakeSlice(v.Type(), size, size))
		for i := range size {
			fill(r, v.Index(i), levels-1)
		}
	case reflect.Struct:
		for i := range v.NumField() {
			fill(r, v.Field(i), levels-1)
		}
	}
}

// random returns a random tree, with or without its form.
func random[T any](r *rand.Rand, levels int) T {
	var result T
	fill(r, reflect.ValueOf(&result).Elem(), levels)
	return result
}

// duplicate returns a copy that shares no memory with a tree. Empty lists become nil.
func duplicate[T any](tree T) T {
	var result T
	duplicateTo(reflect.ValueOf(&result).Elem(), reflect.ValueOf(tree))
	return result
}

func duplicateTo(to, from reflect.Value) {
	switch from.Kind() {
	case reflect.Slice:
		if from.Len() > 0 {
			to.Set(reflect.MakeSlice(from.Type(), from.Len(), from.Len()))
		}
		for i := range from.Len() {
			duplicateTo(to.Index(i), from.Index(i))
		}
	case reflect.Struct:
		for i := range from.NumField() {
			duplicateTo(to.Field(i), from.Field(i))
		}
	default:
		to.Set(from)
	}
}

// same reports whether two trees are equal, by reflection.
func same[T any](a, b T) bool {
	return reflect.DeepEqual(duplicate(a), duplicate(b))
}

// memory adds the addresses of all lists of a value that are not empty, and reports whether each was new.
func memory(v reflect.Value, known map[uintptr]bool) bool {
	fresh := true
	switch v.Kind() {
	case reflect.Slice:
		if v.Len() > 0 {
			fresh = !known[v.Pointer()]
			known[v.Pointer()] = true
		}
		for i := range v.Len() {
			fresh = memory(v.Index(i), known) && fresh
		}
	case reflect.Struct:
		for i := range v.NumField() {
			fresh = memory(v.Field(i), known) && fresh
		}
	}
	return fresh
}

// checkNew checks that a result shares no memory with some arguments, and that its parts share none.
func checkNew(t *testing.T, what string, result any, arguments ...any) {
	t.Helper()
	known := map[uintptr]bool{}
	for _, argument := range arguments {
		memory(reflect.ValueOf(argument), known)
	}
	if !memory(reflect.ValueOf(result), known) {
		t.Fatalf("%s shares memory", what)
	}
}
