package module_test

import (
	"math/rand"
	"os"
	"reflect"
	"runtime/debug"
	"slices"
	"strconv"
	"strings"
	"testing"
	"time"

	"modcert/api"
	"modcert/author"
	"modcert/module"
	"modcert/parser"
	"modcert/printer"
	"modcert/sample"
	"modcert/scope"
	"modcert/subtype"
)

// The tests make small trees all the time, so most of it would be the time of the collector.
func TestMain(m *testing.M) {
	debug.SetGCPercent(1000)
	os.Exit(m.Run())
}

var (
	anything = api.Type{Kind: api.TypeAny}
	nothing  = api.Type{Kind: api.TypeNone}
	integer  = api.Type{Kind: api.TypeInt}
	text     = api.Type{Kind: api.TypeText}
)

func variable(name string) api.Type {
	return api.Type{Kind: api.TypeVar, Name: name}
}

func reference(module, name string, args ...api.Type) api.Type {
	return api.Type{Kind: api.TypeRef, Module: module, Name: name, Args: args}
}

func list(t api.Type) api.Type {
	return api.Type{Kind: api.TypeList, Args: []api.Type{t}}
}

// resolved returns the resolved tree of the source of a module.
func resolved(source string) api.Module {
	m, at, err := parser.Module(source)
	if err != api.OK {
		panic(source[:at] + " [here] " + source[at:])
	}
	m, at, err = scope.Resolve(m)
	if err != api.OK {
		panic(source + ": " + strconv.Itoa(at))
	}
	return m
}

// unimported returns the resolved tree of a source, without its imports.
func unimported(source string) api.Module {
	m := resolved(source)
	m.Imports = nil
	return m
}

// environment returns the environment of the sources of modules, which is valid.
func environment(sources ...string) api.Env {
	var env api.Env
	for _, source := range sources {
		env = naiveAdd(env, naiveInterface(resolved(source)))
	}
	if path, name, err := subtype.Valid(env); err != api.OK {
		panic(path + " " + name + ": " + strconv.Itoa(int(err)))
	}
	return env
}

// library returns an environment with types of each kind.
func library() api.Env {
	return environment(`module a/v1
		export type Box[+A] = list[A]
		export type Cell[=A] = {get: A}
		export type N <: {a: int} = {a: int, b: text}
		export type Sink[-A] = fn(x: A) int
		export let id[X]: fn(x: X) X = fn(x: X) => x
		export let n: N = {a: 1, b: ""}
		export let one: int = 1
	`, `module b/v1 import a/v1 as a
		export use a::N as M
		export use a::one as uno
	`)
}

func errorName(err api.Errno) string {
	names := map[api.Errno]string{api.OK: "OK", api.ErrArg: "ErrArg", api.ErrSyntax: "ErrSyntax", api.ErrName: "ErrName", api.ErrExists: "ErrExists", api.ErrNotFound: "ErrNotFound",
		api.ErrTooLarge: "ErrTooLarge", api.ErrType: "ErrType", api.ErrArity: "ErrArity", api.ErrVariance: "ErrVariance", api.ErrBound: "ErrBound", api.ErrLoop: "ErrLoop", api.ErrPrivate: "ErrPrivate", api.ErrRange: "ErrRange"}
	if name, ok := names[err]; ok {
		return name
	}
	return strconv.Itoa(int(err))
}

// shown returns a text for diagnostics: "1 ErrType n; 2 ErrArity f".
func shown(found []api.Diagnostic) string {
	var parts []string
	for _, d := range found {
		parts = append(parts, strings.TrimSpace(strconv.Itoa(d.Decl)+" "+errorName(d.Error)+" "+d.Name))
	}
	return strings.Join(parts, "; ")
}

// source returns the source of a resolved module.
func source(m api.Module) string {
	local, at, err := scope.Localize(m)
	if err != api.OK {
		panic(strconv.Itoa(at) + " " + errorName(err))
	}
	s, err := printer.Module(local)
	if err != api.OK {
		panic(errorName(err))
	}
	return s
}

// randomEnv returns a valid environment without the path m/v1.
func randomEnv(r *rand.Rand) api.Env {
	if r.Intn(2) == 0 {
		return rightEnv(r)
	}
	for {
		env := sample.Choice(r.Intn).Env()
		if _, _, err := subtype.Valid(env); err == api.OK {
			return env
		}
	}
}

// rightEnv returns the environment of some right modules.
func rightEnv(r *rand.Rand) api.Env {
	var env api.Env
	for range r.Intn(3) {
		m := author.Module(r.Intn, env, []string{"a/v1", "b/v1", "n/v1", "z/v2"}[r.Intn(4)])
		known := slices.ContainsFunc(env, func(i api.Interface) bool { return i.Path == m.Path })
		if !known && len(naive(env, m)) == 0 {
			env = naiveAdd(env, naiveInterface(m))
		}
	}
	return env
}

// rightModule returns a module that is right in an environment.
func rightModule(r *rand.Rand, env api.Env) api.Module {
	for {
		if m := author.Module(r.Intn, env, "m/v1"); len(module.Check(env, m)) == 0 {
			return m
		}
	}
}

// spoiled returns a copy of a tree in which one part is replaced by another part or by something small.
func spoiled[T any](r *rand.Rand, tree T) T {
	tree = duplicate(tree)
	var parts []reflect.Value
	collect(reflect.ValueOf(&tree).Elem(), &parts)
	part := parts[r.Intn(len(parts))]
	var others []reflect.Value
	for _, other := range parts {
		if other.Type() == part.Type() {
			others = append(others, other)
		}
	}
	switch {
	case r.Intn(2) == 0:
		other := reflect.New(part.Type()).Elem()
		duplicateTo(other, others[r.Intn(len(others))])
		part.Set(other)
	case part.Kind() == reflect.Slice && part.Len() > 0:
		at := r.Intn(part.Len())
		part.Set(reflect.AppendSlice(part.Slice3(0, at, at), part.Slice(at+1, part.Len())))
	default:
		fill(r, part, 1)
	}
	return duplicate(tree)
}

// collect adds a value and its parts to a list.
func collect(v reflect.Value, parts *[]reflect.Value) {
	*parts = append(*parts, v)
	switch v.Kind() {
	case reflect.Slice:
		for i := range v.Len() {
			collect(v.Index(i), parts)
		}
	case reflect.Struct:
		for i := range v.NumField() {
			collect(v.Field(i), parts)
		}
	}
}

// within checks that a function ends soon.
func within(t *testing.T, what string, do func()) {
	t.Helper()
	done := make(chan struct{})
	go func() {
		defer close(done)
		do()
	}()
	select {
	case <-done:
	case <-time.After(time.Minute):
		t.Fatalf("%s does not end", what)
	}
}

// fill gives a value random contents, of at most so many levels, from a few names, so that they refer to each other now and then.
func fill(r *rand.Rand, v reflect.Value, levels int) {
	switch v.Kind() {
	case reflect.Int:
		v.SetInt(int64(r.Intn(14) - 1))
	case reflect.Bool:
		v.SetBool(r.Intn(3) == 0)
	case reflect.String:
		v.SetString([]string{"a", "b", "A", "B", "#0", "a/v1", "b/v1"}[r.Intn(7)])
	case reflect.Slice:
		size := 0
		if levels > 0 {
			size = r.Intn(4)
		}
		v.Set(reflect.MakeSlice(v.Type(), size, size))
		for i := range size {
			fill(r, v.Index(i), levels-1)
		}
	case reflect.Struct:
		for i := range v.NumField() {
			fill(r, v.Field(i), levels-1)
		}
	}
}

// random returns a random tree, with or without its form.
func random[T any](r *rand.Rand, levels int) T {
	var result T
	fill(r, reflect.ValueOf(&result).Elem(), levels)
	return result
}

// duplicate returns a copy that shares no memory with a tree. Empty lists become nil.
func duplicate[T any](tree T) T {
	var result T
	duplicateTo(reflect.ValueOf(&result).Elem(), reflect.ValueOf(tree))
	return result
}

func duplicateTo(to, from reflect.Value) {
	switch from.Kind() {
	case reflect.Slice:
		if from.Len() > 0 {
			to.Set(reflect.MakeSlice(from.Type(), from.Len(), from.Len()))
		}
		for i := range from.Len() {
			duplicateTo(to.Index(i), from.Index(i))
		}
	case reflect.Struct:
		for i := range from.NumField() {
			duplicateTo(to.Field(i), from.Field(i))
		}
	default:
		to.Set(from)
	}
}

// same reports whether two trees are equal, by reflection.
func same[T any](a, b T) bool {
	return reflect.DeepEqual(duplicate(a), duplicate(b))
}

// memory adds the addresses of all lists of a value that are not empty, and reports whether each was new.
func memory(v reflect.Value, known map[uintptr]bool) bool {
	fresh := true
	switch v.Kind() {
	case reflect.Slice:
		if v.Len() > 0 {
			fresh = !known[v.Pointer()]
			known[v.Pointer()] = true
		}
		for i := range v.Len() {
			fresh = memory(v.Index(i), known) && fresh
		}
	case reflect.Struct:
		for i := range v.NumField() {
			fresh = memory(v.Field(i), known) && fresh
		}
	}
	return fresh
}

// checkNew checks that a result shares no memory with some arguments, and that its parts share none.
func checkNew(t *testing.T, what string, result any, arguments ...any) {
	t.Helper()
	known := map[uintptr]bool{}
	for _, argument := range arguments {
		memory(reflect.ValueOf(argument), known)
	}
	if !memory(reflect.ValueOf(result), known) {
		t.Fatalf("%s shares memory", what)
	}
}

// rightlyMade returns a module that is often right in an environment.
func rightlyMade(r *rand.Rand, env api.Env) api.Module {
	return author.Module(r.Intn, naiveWithout(env, "m/v1"), "m/v1")
}
