package syntax_test

import (
	"fmt"
	"math/rand"
	"reflect"
	"strconv"
	"testing"

	"modcert/api"
)

var (
	anything = api.Type{Kind: api.TypeAny}
	nothing  = api.Type{Kind: api.TypeNone}
	integer  = api.Type{Kind: api.TypeInt}
	boolean  = api.Type{Kind: api.TypeBool}
	text     = api.Type{Kind: api.TypeText}
)

func list(t api.Type) api.Type {
	return api.Type{Kind: api.TypeList, Args: []api.Type{t}}
}

func record(fields ...api.Field) api.Type {
	return api.Type{Kind: api.TypeRecord, Fields: fields}
}

func variant(cases ...api.Field) api.Type {
	return api.Type{Kind: api.TypeVariant, Fields: cases}
}

func function(result api.Type, params ...api.Field) api.Type {
	return api.Type{Kind: api.TypeFunc, Args: []api.Type{result}, Fields: params}
}

func variable(name string) api.Type {
	return api.Type{Kind: api.TypeVar, Name: name}
}

func reference(module, name string, args ...api.Type) api.Type {
	return api.Type{Kind: api.TypeRef, Module: module, Name: name, Args: args}
}

func field(name string, t api.Type) api.Field {
	return api.Field{Name: name, Type: t}
}

func optional(name string, t api.Type) api.Field {
	return api.Field{Name: name, Type: t, Optional: true}
}

func number(n int) api.Expr {
	return api.Expr{Kind: api.ExprInt, Number: n}
}

func local(name string) api.Expr {
	return api.Expr{Kind: api.ExprLocal, Name: name}
}

func operation(name string, kids ...api.Expr) api.Expr {
	return api.Expr{Kind: api.ExprOp, Name: name, Kids: kids}
}

func ascribe(e api.Expr, t api.Type) api.Expr {
	return api.Expr{Kind: api.ExprAscribe, Types: []api.Type{t}, Kids: []api.Expr{e}}
}

// elements returns a list expression.
func elements(t api.Type, kids ...api.Expr) api.Expr {
	return api.Expr{Kind: api.ExprList, Types: []api.Type{t}, Kids: kids}
}

// deepType returns a type with a depth.
func deepType(depth int, t api.Type) api.Type {
	for range depth - 1 {
		t = list(t)
	}
	return t
}

// deepExpr returns an expression with a depth.
func deepExpr(depth int, e api.Expr) api.Expr {
	for range depth - 1 {
		e = operation("not", e)
	}
	return e
}

// names returns names in increasing order.
func names(count int) []string {
	var result []string
	for i := range count {
		result = append(result, "f"+strconv.Itoa(100+i))
	}
	return result
}

// fields returns fields in increasing order.
func fields(count int, t api.Type) []api.Field {
	var result []api.Field
	for _, name := range names(count) {
		result = append(result, field(name, t))
	}
	return result
}

// labels returns labels in increasing order.
func labels(count int) []api.Label {
	var result []api.Label
	for _, name := range names(count) {
		result = append(result, api.Label{Name: name})
	}
	return result
}

// numbers returns expressions.
func numbers(count int) []api.Expr {
	return make([]api.Expr, count)
}

// bigType returns a type with a size, of a small depth.
func bigType(size int) api.Type {
	if size == 1 {
		return integer
	}
	parts := min(size-1, api.MaxFields)
	result := record(fields(parts, integer)...)
	for i := range parts {
		result.Fields[i].Type = bigType((size - 1 + i) / parts)
	}
	return result
}

// formed returns a random type that has its form.
func formed(r *rand.Rand, levels int) api.Type {
	parts := func() []api.Field {
		all := fields(r.Intn(4), anything)
		for i := range all {
			all[i].Type = formed(r, levels-1)
		}
		return all
	}
	if levels == 0 {
		return []api.Type{anything, nothing, integer, boolean, text, variable("A"), variable("#0")}[r.Intn(7)]
	}
	switch r.Intn(6) {
	case 0:
		return formed(r, 0)
	case 1:
		return list(formed(r, levels-1))
	case 2:
		return record(parts()...)
	case 3:
		return variant(parts()...)
	case 4:
		return reference([]string{"", "m", "a/v1"}[r.Intn(3)], "B", formed(r, levels-1), formed(r, levels-1))
	}
	params := parts()
	for i := range params {
		params[i].Optional = r.Intn(2) == 0
	}
	return function(formed(r, levels-1), params...)
}

// show returns the beginning of what a value is printed as.
func show(v any) string {
	s := fmt.Sprint(v)
	return s[:min(len(s), 500)]
}

// fill gives a value random contents, of at most so many levels: all kinds of trees, with and without their forms.
func fill(r *rand.Rand, v reflect.Value, levels int) {
	switch v.Kind() {
	case reflect.Int:
		v.SetInt(int64(r.Intn(19) - 1))
	case reflect.Bool:
		v.SetBool(r.Intn(3) == 0)
	case reflect.String:
		v.SetString([]string{"", "", "a", "b", "A", "B", "#0", "#9", "m/v1", "+", "not", "int"}[r.Intn(12)])
	case reflect.Slice:
		size := 0
		if levels > 0 {
			size = r.Intn(4)
		}
		v.Set(reflect.MakeSlice(v.Type(), size, size))
		for i := range size {
			fill(r, v.Index(i), levels-1)
		}
	case reflect.Struct:
		for i := range v.NumField() {
			fill(r, v.Field(i), levels-1)
		}
	}
}

// random returns a random tree.
func random[T any](r *rand.Rand, levels int) T {
	var result T
	fill(r, reflect.ValueOf(&result).Elem(), levels)
	return result
}

// duplicate returns a copy that shares no memory with a tree. Empty lists become nil, or nil ones empty.
func duplicate[T any](tree T, empty bool) T {
	var result T
	duplicateTo(reflect.ValueOf(&result).Elem(), reflect.ValueOf(tree), empty)
	return result
}

func duplicateTo(to, from reflect.Value, empty bool) {
	switch from.Kind() {
	case reflect.Slice:
		if from.Len() > 0 || empty {
			to.Set(reflect.MakeSlice(from.Type(), from.Len(), from.Len()))
		}
		for i := range from.Len() {
			duplicateTo(to.Index(i), from.Index(i), empty)
		}
	case reflect.Struct:
		for i := range from.NumField() {
			duplicateTo(to.Field(i), from.Field(i), empty)
		}
	default:
		to.Set(from)
	}
}

// same reports whether two trees are equal, by reflection.
func same[T any](a, b T) bool {
	return reflect.DeepEqual(duplicate(a, false), duplicate(b, false))
}

// changes calls a function after each change of a single part of a value, and takes each change back.
func changes(v reflect.Value, changed func()) {
	old := reflect.New(v.Type()).Elem()
	old.Set(v)
	change := func(set func()) {
		set()
		changed()
		v.Set(old)
	}
	switch v.Kind() {
	case reflect.Int:
		change(func() { v.SetInt(old.Int() + 1) })
	case reflect.Bool:
		change(func() { v.SetBool(!old.Bool()) })
	case reflect.String:
		change(func() { v.SetString(old.String() + "x") })
	case reflect.Slice:
		change(func() { v.Set(reflect.Append(old.Slice3(0, old.Len(), old.Len()), reflect.Zero(v.Type().Elem()))) })
		if v.Len() > 0 {
			change(func() { v.Set(old.Slice(0, old.Len()-1)) })
		}
		for i := range v.Len() {
			changes(v.Index(i), changed)
		}
	case reflect.Struct:
		for i := range v.NumField() {
			changes(v.Field(i), changed)
		}
	}
}

// memory adds the addresses of all lists of a value that are not empty, and reports whether each was new.
func memory(v reflect.Value, known map[uintptr]bool) bool {
	fresh := true
	switch v.Kind() {
	case reflect.Slice:
		if v.Len() > 0 {
			fresh = !known[v.Pointer()]
			known[v.Pointer()] = true
		}
		for i := range v.Len() {
			fresh = memory(v.Index(i), known) && fresh
		}
	case reflect.Struct:
		for i := range v.NumField() {
			fresh = memory(v.Field(i), known) && fresh
		}
	}
	return fresh
}

// ladder checks the errors of a tree that has several, which are repaired one after the other; behind the last repair there is none.
func ladder[T any](t *testing.T, tree T, check func(T) api.Errno, errors []api.Errno, repairs ...func(*T)) {
	t.Helper()
	for i, repair := range repairs {
		if got := check(tree); got != errors[i] {
			t.Errorf("behind %d repairs the error is %d, not %d", i, got, errors[i])
		}
		repair(&tree)
	}
	if got := check(tree); got != api.OK {
		t.Errorf("behind all repairs the error is %d", got)
	}
}
