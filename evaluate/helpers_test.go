package evaluate_test

import (
	"math/rand"
	"os"
	"reflect"
	"runtime/debug"
	"slices"
	"strconv"
	"strings"
	"testing"
	"time"

	"modcert/api"
	"modcert/author"
	"modcert/environ"
	"modcert/extract"
	"modcert/module"
	"modcert/parser"
	"modcert/scope"
)

// The tests make small trees all the time, so most of it would be the time of the collector.
func TestMain(m *testing.M) {
	debug.SetGCPercent(1000)
	os.Exit(m.Run())
}

// program returns the resolved modules of some sources. They need not be right.
func program(sources ...string) api.Program {
	var p api.Program
	for _, source := range sources {
		m, at, err := parser.Module(source)
		if err != api.OK {
			panic(source[:at] + " [here] " + source[at:])
		}
		m, at, err = scope.Resolve(m)
		if err != api.OK {
			panic(source + ": " + strconv.Itoa(at))
		}
		p = append(p, m)
	}
	return p
}

// valued returns the program of a module m/v1 whose value v has an expression.
func valued(expression string) api.Program {
	return program("module m/v1 let v: any = " + expression)
}

// declared returns a program of a module m/v1 whose value v is a tree.
func declared(e api.Expr) api.Program {
	return api.Program{{Path: "m/v1", Decls: []api.Decl{{Kind: api.DeclValue, Name: "v", Expr: e}}}}
}

func global(module, name string) api.Expr {
	return api.Expr{Kind: api.ExprValue, Module: module, Name: name}
}

func errorName(err api.Errno) string {
	names := map[api.Errno]string{api.OK: "OK", api.ErrArg: "ErrArg", api.ErrNotFound: "ErrNotFound", api.ErrTooLarge: "ErrTooLarge", api.ErrType: "ErrType", api.ErrLoop: "ErrLoop", api.ErrLimit: "ErrLimit"}
	if name, ok := names[err]; ok {
		return name
	}
	return strconv.Itoa(int(err))
}

// usesText returns a text for uses: "a/v1 x, b/v1 y".
func usesText(uses []api.Use) string {
	var parts []string
	for _, use := range uses {
		parts = append(parts, use.Module+" "+use.Name)
	}
	return strings.Join(parts, ", ")
}

// valuesOf returns the names of the values and facades of values of a program.
func valuesOf(p api.Program) []api.Use {
	var uses []api.Use
	for _, m := range p {
		for _, d := range m.Decls {
			uses = append(uses, api.Use{Module: m.Path, Name: d.Name})
		}
	}
	return uses
}

// rightProgram returns a program whose modules are right, each one in the environment of those before it.
func rightProgram(r *rand.Rand) api.Program {
	var env api.Env
	var p api.Program
	for _, path := range []string{"a/v1", "b/v1", "c/v1"} {
		m := author.Module(r.Intn, env, path)
		if len(module.Check(env, m)) > 0 {
			continue
		}
		i, err := extract.Interface(m)
		if err != api.OK {
			panic(err)
		}
		env = environ.Add(env, i)
		p = append(p, m)
	}
	return p
}

// changed returns a copy of an expression, in which a function has changed each node behind its kids.
func changed(e api.Expr, change func(e api.Expr) api.Expr) api.Expr {
	e.Kids = slices.Clone(e.Kids)
	for i, kid := range e.Kids {
		e.Kids[i] = changed(kid, change)
	}
	return change(e)
}

// changedProgram returns a copy of a program, in which a function has changed each node of its expressions.
func changedProgram(p api.Program, change func(e api.Expr) api.Expr) api.Program {
	p = duplicate(p)
	for i := range p {
		for k := range p[i].Decls {
			if d := &p[i].Decls[k]; d.Kind == api.DeclValue {
				d.Expr = changed(d.Expr, change)
			}
		}
	}
	return p
}

// otherwise returns a program whose expressions have their form, but not always a type.
func otherwise(r *rand.Rand, p api.Program) api.Program {
	globals := valuesOf(p)
	return changedProgram(p, func(e api.Expr) api.Expr {
		if r.Intn(30) > 0 {
			return e
		}
		names := []string{"a", "b", "c", "x"}
		switch e.Kind {
		case api.ExprLocal, api.ExprProject, api.ExprInject, api.ExprLet:
			e.Name = names[r.Intn(4)]
		case api.ExprValue:
			use := globals[r.Intn(len(globals))]
			e.Module, e.Name = use.Module, use.Name
			if r.Intn(4) == 0 || e.Name < "a" {
				e.Name = names[r.Intn(4)]
			}
		case api.ExprOp:
			if len(e.Kids) == 2 {
				e.Name = []string{"+", "-", "*", "<", "==", "===", "++", "and", "or"}[r.Intn(9)]
			}
		case api.ExprInt, api.ExprText, api.ExprBool:
			return []api.Expr{{Kind: api.ExprInt, Number: 3}, {Kind: api.ExprText, Text: "t"}, {Kind: api.ExprBool}, {Kind: api.ExprRecord}}[r.Intn(4)]
		case api.ExprRecord, api.ExprCall, api.ExprMatch:
			if len(e.Labels) > 0 {
				e.Labels, e.Kids = e.Labels[1:], e.Kids[:len(e.Kids)-1]
			}
		case api.ExprIf:
			e.Kids[0], e.Kids[1] = e.Kids[1], e.Kids[0]
		}
		return e
	})
}

// within checks that a function ends soon.
func within(t *testing.T, what string, do func()) {
	t.Helper()
	done := make(chan struct{})
	go func() {
		defer close(done)
		do()
	}()
	select {
	case <-done:
	case <-time.After(time.Minute):
		t.Fatalf("%s does not end", what)
	}
}

// fill gives a value random contents, of at most so many levels, from a few names, so that they refer to each other now and then.
func fill(r *rand.Rand, v reflect.Value, levels int) {
	switch v.Kind() {
	case reflect.Int:
		v.SetInt(int64(r.Intn(14) - 1))
	case reflect.Bool:
		v.SetBool(r.Intn(3) == 0)
	case reflect.String:
		v.SetString([]string{"a", "b", "A", "B", "#0", "a/v1", "b/v1"}[r.Intn(7)])
	case reflect.Slice:
		size := 0
		if levels > 0 {
			size = r.Intn(4)
		}
		v.Set(reflect.MakeSlice(v.Type(), size, size))
		for i := range size {
			fill(r, v.Index(i), levels-1)
		}
	case reflect.Struct:
		for i := range v.NumField() {
			fill(r, v.Field(i), levels-1)
		}
	}
}

// random returns a random tree, with or without its form.
func random[T any](r *rand.Rand, levels int) T {
	var result T
	fill(r, reflect.ValueOf(&result).Elem(), levels)
	return result
}

// duplicate returns a copy that shares no memory with a tree. Empty lists become nil.
func duplicate[T any](tree T) T {
	var result T
	duplicateTo(reflect.ValueOf(&result).Elem(), reflect.ValueOf(tree))
	return result
}

func duplicateTo(to, from reflect.Value) {
	switch from.Kind() {
	case reflect.Slice:
		if from.Len() > 0 {
			to.Set(reflect.MakeSlice(from.Type(), from.Len(), from.Len()))
		}
		for i := range from.Len() {
			duplicateTo(to.Index(i), from.Index(i))
		}
	case reflect.Struct:
		for i := range from.NumField() {
			duplicateTo(to.Field(i), from.Field(i))
		}
	default:
		to.Set(from)
	}
}

// same reports whether two trees are equal, by reflection.
func same[T any](a, b T) bool {
	return reflect.DeepEqual(duplicate(a), duplicate(b))
}

// memory adds the addresses of all lists of a value that are not empty, and reports whether each was new.
func memory(v reflect.Value, known map[uintptr]bool) bool {
	fresh := true
	switch v.Kind() {
	case reflect.Slice:
		if v.Len() > 0 {
			fresh = !known[v.Pointer()]
			known[v.Pointer()] = true
		}
		for i := range v.Len() {
			fresh = memory(v.Index(i), known) && fresh
		}
	case reflect.Struct:
		for i := range v.NumField() {
			fresh = memory(v.Field(i), known) && fresh
		}
	}
	return fresh
}

// checkApart checks that a result shares no memory with some arguments. Its parts may share some with each other.
func checkApart(t *testing.T, what string, result any, arguments ...any) {
	t.Helper()
	known, own := map[uintptr]bool{}, map[uintptr]bool{}
	for _, argument := range arguments {
		memory(reflect.ValueOf(argument), known)
	}
	memory(reflect.ValueOf(result), own)
	for address := range own {
		if known[address] {
			t.Fatalf("%s shares memory", what)
		}
	}
}
