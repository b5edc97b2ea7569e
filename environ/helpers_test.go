package environ_test

import (
	"math/rand"
	"reflect"
	"testing"

	"modcert/api"
	"modcert/sample"
)

var (
	anything = api.Type{Kind: api.TypeAny}
	integer  = api.Type{Kind: api.TypeInt}
	text     = api.Type{Kind: api.TypeText}
)

func list(t api.Type) api.Type {
	return api.Type{Kind: api.TypeList, Args: []api.Type{t}}
}

func record(fields ...api.Field) api.Type {
	return api.Type{Kind: api.TypeRecord, Fields: fields}
}

func function(result api.Type, params ...api.Field) api.Type {
	return api.Type{Kind: api.TypeFunc, Args: []api.Type{result}, Fields: params}
}

func variable(name string) api.Type {
	return api.Type{Kind: api.TypeVar, Name: name}
}

func reference(module, name string, args ...api.Type) api.Type {
	return api.Type{Kind: api.TypeRef, Module: module, Name: name, Args: args}
}

func field(name string, t api.Type) api.Field {
	return api.Field{Name: name, Type: t}
}

func alias(name, module, target string) api.AliasEntry {
	return api.AliasEntry{Name: name, Module: module, Target: target}
}

// typeNamed returns a type with a size of its own, so that entries with one name can be told apart.
func typeNamed(name string, upper api.Type) api.TypeEntry {
	return api.TypeEntry{Name: name, Upper: upper}
}

func valueNamed(name string, t api.Type) api.ValueEntry {
	return api.ValueEntry{Name: name, Type: t}
}

// randomEnv returns a well-formed environment.
func randomEnv(seed int64) api.Env {
	return sample.Choice(rand.New(rand.NewSource(seed)).Intn).Env()
}

// fill gives a value random contents, of at most so many levels, from a few names, so that they refer to each other now and then.
func fill(r *rand.Rand, v reflect.Value, levels int) {
	switch v.Kind() {
	case reflect.Int:
		v.SetInt(int64(r.Intn(14) - 1))
	case reflect.Bool:
		v.SetBool(r.Intn(3) == 0)
	case reflect.String:
		v.SetString([]string{"a", "b", "A", "#0", "a/v1", "b/v1"}[r.Intn(6)])
	case reflect.Slice:
		size := 0
		if levels > 0 {
			size = r.Intn(4)
		}
		v.Set(reflect.MakeSlice(v.Type(), size, size))
		for i := range size {
			fill(r, v.Index(i), levels-1)
		}
	case reflect.Struct:
		for i := range v.NumField() {
			fill(r, v.Field(i), levels-1)
		}
	}
}

// random returns a random tree, with or without its form.
func random[T any](r *rand.Rand, levels int) T {
	var result T
	fill(r, reflect.ValueOf(&result).Elem(), levels)
	return result
}

// wild returns a random environment that is hardly ever well-formed.
func wild(r *rand.Rand) api.Env {
	env := random[api.Env](r, 7)
	for i := range env {
		env[i].Path = []string{"a/v1", "b/v1", "a", "A"}[r.Intn(4)]
		for k := range env[i].Types {
			env[i].Types[k].Upper = reference([]string{"a/v1", "b/v1"}[r.Intn(2)], []string{"a", "b", "A"}[r.Intn(3)], env[i].Types[k].Lower)
		}
		for k := range env[i].Aliases {
			env[i].Aliases[k] = alias([]string{"a", "b", "A"}[r.Intn(3)], []string{"a/v1", "b/v1"}[r.Intn(2)], []string{"a", "b", "A"}[r.Intn(3)])
		}
	}
	return env
}

// duplicate returns a copy that shares no memory with a tree. Empty lists become nil, or nil ones empty.
func duplicate[T any](tree T, empty bool) T {
	var result T
	duplicateTo(reflect.ValueOf(&result).Elem(), reflect.ValueOf(tree), empty)
	return result
}

func duplicateTo(to, from reflect.Value, empty bool) {
	switch from.Kind() {
	case reflect.Slice:
		if from.Len() > 0 || empty {
			to.Set(reflect.MakeSlice(from.Type(), from.Len(), from.Len()))
		}
		for i := range from.Len() {
			duplicateTo(to.Index(i), from.Index(i), empty)
		}
	case reflect.Struct:
		for i := range from.NumField() {
			duplicateTo(to.Field(i), from.Field(i), empty)
		}
	default:
		to.Set(from)
	}
}

// same reports whether two trees are equal, by reflection.
func same[T any](a, b T) bool {
	return reflect.DeepEqual(duplicate(a, false), duplicate(b, false))
}

// changes calls a function after each change of a single part of a value, and takes each change back.
func changes(v reflect.Value, changed func()) {
	old := reflect.New(v.Type()).Elem()
	old.Set(v)
	change := func(set func()) {
		set()
		changed()
		v.Set(old)
	}
	switch v.Kind() {
	case reflect.Int:
		change(func() { v.SetInt(old.Int() + 1) })
	case reflect.Bool:
		change(func() { v.SetBool(!old.Bool()) })
	case reflect.String:
		change(func() { v.SetString(old.String() + "x") })
	case reflect.Slice:
		change(func() { v.Set(reflect.Append(old.Slice3(0, old.Len(), old.Len()), reflect.Zero(v.Type().Elem()))) })
		if v.Len() > 0 {
			change(func() { v.Set(old.Slice(0, old.Len()-1)) })
		}
		for i := range v.Len() {
			changes(v.Index(i), changed)
		}
	case reflect.Struct:
		for i := range v.NumField() {
			changes(v.Field(i), changed)
		}
	}
}

// memory adds the addresses of all lists of a value that are not empty, and reports whether each was new.
func memory(v reflect.Value, known map[uintptr]bool) bool {
	fresh := true
	switch v.Kind() {
	case reflect.Slice:
		if v.Len() > 0 {
			fresh = !known[v.Pointer()]
			known[v.Pointer()] = true
		}
		for i := range v.Len() {
			fresh = memory(v.Index(i), known) && fresh
		}
	case reflect.Struct:
		for i := range v.NumField() {
			fresh = memory(v.Field(i), known) && fresh
		}
	}
	return fresh
}

// checkNew checks that results share no memory with each other or with some arguments.
func checkNew(t *testing.T, what string, arguments []any, results ...any) {
	t.Helper()
	known := map[uintptr]bool{}
	for _, argument := range arguments {
		memory(reflect.ValueOf(argument), known)
	}
	for _, result := range results {
		if !memory(reflect.ValueOf(result), known) {
			t.Fatalf("%s shares memory", what)
		}
	}
}
