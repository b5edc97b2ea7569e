package wellformed_test

import (
	"math/rand"
	"reflect"
	"strconv"
	"strings"
	"testing"

	"modcert/api"
	"modcert/parser"
	"modcert/sample"
)

var (
	anything = api.Type{Kind: api.TypeAny}
	integer  = api.Type{Kind: api.TypeInt}
)

// typed returns the type of a source, in which X0, X1, ... stand for the variables #0, #1, ..., and m:: for m/v1::.
func typed(source string) api.Type {
	t, at, err := parser.Type(source)
	if err != api.OK {
		panic(source + ": " + strconv.Itoa(at))
	}
	return resolved(t)
}

func resolved(t api.Type) api.Type {
	if number, ok := strings.CutPrefix(t.Name, "X"); ok && t.Kind == api.TypeRef && t.Module == "" {
		return variable("#" + number)
	}
	if t.Kind == api.TypeRef && t.Module != "" {
		t.Module += "/v1"
	}
	for i, part := range t.Args {
		t.Args[i] = resolved(part)
	}
	for i, part := range t.Fields {
		t.Fields[i].Type = resolved(part.Type)
	}
	return t
}

func variable(name string) api.Type {
	return api.Type{Kind: api.TypeVar, Name: name}
}

func reference(module, name string, args ...api.Type) api.Type {
	return api.Type{Kind: api.TypeRef, Module: module, Name: name, Args: args}
}

func alias(name, module, target string) api.AliasEntry {
	return api.AliasEntry{Name: name, Module: module, Target: target}
}

// params returns parameters with the variances of a word of the signs + - =.
func params(signs string) []api.Param {
	var list []api.Param
	for i, sign := range signs {
		list = append(list, api.Param{Name: "#" + strconv.Itoa(i), Variance: strings.IndexRune("+-=", sign)})
	}
	return list
}

// bounded returns variables with bounds.
func bounded(bounds ...string) []api.Param {
	var list []api.Param
	for i, bound := range bounds {
		list = append(list, api.Param{Name: "#" + strconv.Itoa(i), Bound: typed(bound)})
	}
	return list
}

// entry returns a type from its name, signs and bounds.
func entry(name, signs, lower, upper string) api.TypeEntry {
	return api.TypeEntry{Name: name, Params: params(signs), Lower: typed(lower), Upper: typed(upper)}
}

// deep returns a type with a depth.
func deep(depth int) api.Type {
	t := integer
	for range depth - 1 {
		t = api.Type{Kind: api.TypeList, Args: []api.Type{t}}
	}
	return t
}

// randomEnv returns a well-formed environment.
func randomEnv(seed int64) api.Env {
	return sample.Choice(rand.New(rand.NewSource(seed)).Intn).Env()
}

// fill gives a value random contents, of at most so many levels, from a few names, so that they refer to each other now and then.
func fill(r *rand.Rand, v reflect.Value, levels int) {
	switch v.Kind() {
	case reflect.Int:
		v.SetInt(int64(r.Intn(14) - 1))
	case reflect.Bool:
		v.SetBool(r.Intn(3) == 0)
	case reflect.String:
		v.SetString([]string{"a", "b", "A", "B", "#0", "a/v1", "b/v1"}[r.Intn(7)])
	case reflect.Slice:
		size := 0
		if levels > 0 {
			size = r.Intn(4)
		}
		v.Set(reflect.MakeSlice(v.Type(), size, size))
		for i := range size {
			fill(r, v.Index(i), levels-1)
		}
	case reflect.Struct:
		for i := range v.NumField() {
			fill(r, v.Field(i), levels-1)
		}
	}
}

// random returns a random tree, with or without its form.
func random[T any](r *rand.Rand, levels int) T {
	var result T
	fill(r, reflect.ValueOf(&result).Elem(), levels)
	return result
}

// duplicate returns a copy that shares no memory with a tree. Empty lists become nil.
func duplicate[T any](tree T) T {
	var result T
	duplicateTo(reflect.ValueOf(&result).Elem(), reflect.ValueOf(tree))
	return result
}

func duplicateTo(to, from reflect.Value) {
	switch from.Kind() {
	case reflect.Slice:
		if from.Len() > 0 {
			to.Set(reflect.MakeSlice(from.Type(), from.Len(), from.Len()))
		}
		for i := range from.Len() {
			duplicateTo(to.Index(i), from.Index(i))
		}
	case reflect.Struct:
		for i := range from.NumField() {
			duplicateTo(to.Field(i), from.Field(i))
		}
	default:
		to.Set(from)
	}
}

// same reports whether two trees are equal, by reflection.
func same[T any](a, b T) bool {
	return reflect.DeepEqual(duplicate(a), duplicate(b))
}

// ladder checks the errors of a tree that has several, which are repaired one after the other; behind the last repair there is none.
func ladder[T any](t *testing.T, tree T, check func(T) api.Errno, errors []api.Errno, repairs ...func(*T)) {
	t.Helper()
	for i, repair := range repairs {
		if got := check(tree); got != errors[i] {
			t.Errorf("behind %d repairs the error is %d, not %d", i, got, errors[i])
		}
		repair(&tree)
	}
	if got := check(tree); got != api.OK {
		t.Errorf("behind all repairs the error is %d", got)
	}
}
