package check_test

import (
	"math/rand"
	"reflect"
	"strconv"
	"strings"
	"testing"
	"time"

	"modcert/api"
	"modcert/environ"
	"modcert/extract"
	"modcert/parser"
	"modcert/printer"
	"modcert/sample"
	"modcert/scope"
	"modcert/subtype"
)

var (
	anything = api.Type{Kind: api.TypeAny}
	nothing  = api.Type{Kind: api.TypeNone}
	integer  = api.Type{Kind: api.TypeInt}
	boolean  = api.Type{Kind: api.TypeBool}
	text     = api.Type{Kind: api.TypeText}
)

func variable(name string) api.Type {
	return api.Type{Kind: api.TypeVar, Name: name}
}

func reference(module, name string, args ...api.Type) api.Type {
	return api.Type{Kind: api.TypeRef, Module: module, Name: name, Args: args}
}

func list(t api.Type) api.Type {
	return api.Type{Kind: api.TypeList, Args: []api.Type{t}}
}

func record(fields ...api.Field) api.Type {
	return api.Type{Kind: api.TypeRecord, Fields: fields}
}

func number(n int) api.Expr {
	return api.Expr{Kind: api.ExprInt, Number: n}
}

func local(name string) api.Expr {
	return api.Expr{Kind: api.ExprLocal, Name: name}
}

// changed returns a copy of an expression in which a function has changed every type.
func changed(e api.Expr, change func(t api.Type) api.Type) api.Expr {
	e = duplicate(e)
	for i, t := range e.Types {
		e.Types[i] = change(t)
	}
	for i := range e.Labels {
		if e.Kind == api.ExprFunc {
			e.Labels[i].Type = change(e.Labels[i].Type)
		}
	}
	for i, kid := range e.Kids {
		e.Kids[i] = changed(kid, change)
	}
	return e
}

// named gives the names in a type their meanings: m::N stands for a type of m/v1, and names without a module are variables (P1 is #1).
func named(t api.Type) api.Type {
	t = duplicate(t)
	switch {
	case t.Kind == api.TypeRef && t.Module == "":
		return variable(strings.Replace(t.Name, "P", "#", 1))
	case t.Kind == api.TypeRef:
		t.Module += "/v1"
	}
	for i, part := range t.Args {
		t.Args[i] = named(part)
	}
	for i, part := range t.Fields {
		t.Fields[i].Type = named(part.Type)
	}
	return t
}

// typed returns the type of a source.
func typed(source string) api.Type {
	t, at, err := parser.Type(source)
	if err != api.OK {
		panic(source + ": " + strconv.Itoa(at))
	}
	return named(t)
}

// expression returns the expression of a source, in which m::x stands for a value of m/v1, and names without a module are local variables.
func expression(source string) api.Expr {
	e, at, err := parser.Expr(source)
	if err != api.OK {
		panic(source + ": " + strconv.Itoa(at))
	}
	e = changed(e, named)
	var place func(e *api.Expr)
	place = func(e *api.Expr) {
		if e.Kind == api.ExprValue {
			e.Module += "/v1"
		}
		for i := range e.Kids {
			place(&e.Kids[i])
		}
	}
	place(&e)
	return e
}

// context returns a context from variables with their bounds: X <: int, Y <: X.
func context(source string) api.Context {
	var result api.Context
	for _, part := range strings.Split(source, ", ") {
		name, bound, ok := strings.Cut(part, " <: ")
		if !ok {
			panic(source)
		}
		result = append(result, api.Param{Name: typed(name).Name, Bound: typed(bound)})
	}
	return result
}

// locals returns local variables with their types: x: int; y: {a: text}.
func locals(source string) []api.Field {
	var result []api.Field
	for _, part := range strings.Split(source, "; ") {
		name, t, ok := strings.Cut(part, ": ")
		if !ok {
			panic(source)
		}
		result = append(result, api.Field{Name: name, Type: typed(t)})
	}
	return result
}

// environment returns the environment of the sources of modules, which is valid.
func environment(sources ...string) api.Env {
	var env api.Env
	for _, source := range sources {
		m, at, err := parser.Module(source)
		if err != api.OK {
			panic(source[at:])
		}
		m, at, err = scope.Resolve(m)
		if err != api.OK {
			panic(m.Path + strconv.Itoa(at))
		}
		i, err := extract.Interface(m)
		if err != api.OK {
			panic(m.Path)
		}
		env = append(env, i)
	}
	if path, name, err := subtype.Valid(env); err != api.OK {
		panic(path + " " + name + ": " + strconv.Itoa(int(err)))
	}
	return env
}

// shown returns a text for an expression in a message.
func shown(e api.Expr) string {
	aliased := func(path string) string {
		return strings.ReplaceAll(path, "/", "_")
	}
	var place func(t api.Type) api.Type
	place = func(t api.Type) api.Type {
		t = duplicate(t)
		if t.Kind == api.TypeVar {
			t = reference("", "V"+strings.TrimPrefix(t.Name, "#"))
		}
		t.Module = aliased(t.Module)
		for i, part := range t.Args {
			t.Args[i] = place(part)
		}
		for i, part := range t.Fields {
			t.Fields[i].Type = place(part.Type)
		}
		return t
	}
	e = changed(e, place)
	var walk func(e *api.Expr)
	walk = func(e *api.Expr) {
		e.Module = aliased(e.Module)
		for i := range e.Kids {
			walk(&e.Kids[i])
		}
	}
	walk(&e)
	source, _ := printer.Expr(e)
	return source
}

// randomEnv returns a valid environment.
func randomEnv(r *rand.Rand) api.Env {
	for {
		env := sample.Choice(r.Intn).Env()
		if _, _, err := subtype.Valid(env); err == api.OK {
			return env
		}
	}
}

// generator makes types with some variables for an environment, of which it knows the types and the values.
type generator struct {
	r             *rand.Rand
	env           api.Env
	variables     []string
	types, values []api.Use
}

func newGenerator(r *rand.Rand, env api.Env) generator {
	g := generator{r: r, env: env}
	for _, i := range env {
		for _, name := range environ.Exports(i) {
			use := api.Use{Module: i.Path, Name: name}
			if _, _, err := environ.Type(env, i.Path, name); err == api.OK {
				g.types = append(g.types, use)
			} else {
				g.values = append(g.values, use)
			}
		}
	}
	return g
}

// inside returns the generator of types with the first variables alone.
func (g generator) inside(variables int) generator {
	g.variables = g.variables[:variables]
	return g
}

func (g generator) fields(levels int) []api.Field {
	var fields []api.Field
	for _, name := range []string{"a", "b", "c"} {
		if g.r.Intn(2) == 0 {
			fields = append(fields, api.Field{Name: name, Type: g.typed(levels)})
		}
	}
	return fields
}

// typed returns a random type.
func (g generator) typed(levels int) api.Type {
	kind := g.r.Intn(13)
	if levels == 0 {
		kind = g.r.Intn(9)
	}
	switch kind {
	case 0, 1, 2, 3, 4:
		return api.Type{Kind: kind}
	case 9:
		return list(g.typed(levels - 1))
	case 10:
		return record(g.fields(levels - 1)...)
	case 11:
		return api.Type{Kind: api.TypeVariant, Fields: g.fields(levels - 1)}
	case 12:
		t := api.Type{Kind: api.TypeFunc, Fields: g.fields(levels - 1), Args: []api.Type{g.typed(levels - 1)}}
		for i := range t.Fields {
			t.Fields[i].Optional = g.r.Intn(2) == 0
		}
		return t
	}
	if len(g.variables) > 0 && (len(g.types) == 0 || g.r.Intn(3) == 0) {
		return variable(g.variables[g.r.Intn(len(g.variables))])
	}
	if len(g.types) == 0 {
		return integer
	}
	use := g.types[g.r.Intn(len(g.types))]
	e, _, _ := environ.Type(g.env, use.Module, use.Name)
	t := reference(use.Module, use.Name)
	for range e.Params {
		if levels == 0 {
			t.Args = append(t.Args, api.Type{Kind: g.r.Intn(5)})
		} else {
			t.Args = append(t.Args, g.typed(levels-1))
		}
	}
	return t
}

// moved returns a type that is often a supertype (up), or a subtype, of another one.
func (g generator) moved(t api.Type, up bool, levels int) api.Type {
	switch {
	case g.r.Intn(25) == 0:
		return g.typed(1)
	case g.r.Intn(12) == 0 && up:
		return anything
	case g.r.Intn(12) == 0:
		return nothing
	case levels == 0 || g.r.Intn(4) == 0:
		return t
	}
	if lower, upper, err := environ.Bounds(g.env, t); err == api.OK && g.r.Intn(2) == 0 {
		if !up {
			upper = lower
		}
		return g.moved(upper, up, levels-1)
	}
	result := api.Type{Kind: t.Kind, Module: t.Module, Name: t.Name}
	entry, _, _ := environ.Type(g.env, t.Module, t.Name)
	for i, part := range t.Args {
		switch {
		case t.Kind == api.TypeList || t.Kind == api.TypeFunc || entry.Params[i].Variance == api.Covariant:
			part = g.moved(part, up, levels-1)
		case entry.Params[i].Variance == api.Contravariant:
			part = g.moved(part, !up, levels-1)
		}
		result.Args = append(result.Args, part)
	}
	for _, f := range t.Fields {
		direction := up != (t.Kind == api.TypeFunc)
		// A supertype has fewer fields, a subtype fewer cases, and either of both may have fewer optional parameters.
		if g.r.Intn(6) == 0 && (t.Kind == api.TypeRecord && up || t.Kind == api.TypeVariant && !up || t.Kind == api.TypeFunc && up && f.Optional) {
			continue
		}
		f.Type = g.moved(f.Type, direction, levels-1)
		if t.Kind == api.TypeFunc && g.r.Intn(4) == 0 {
			f.Optional = !up
		}
		result.Fields = append(result.Fields, f)
	}
	return result
}

// within checks that a function ends soon.
func within(t *testing.T, what string, do func()) {
	t.Helper()
	done := make(chan struct{})
	go func() {
		defer close(done)
		do()
	}()
	select {
	case <-done:
	case <-time.After(time.Minute):
		t.Fatalf("%s does not end", what)
	}
}

// fill gives a value random contents, of at most so many levels, from a few names, so that they refer to each other now and then.
func fill(r *rand.Rand, v reflect.Value, levels int) {
	switch v.Kind() {
	case reflect.Int:
		v.SetInt(int64(r.Intn(14) - 1))
	case reflect.Bool:
		v.SetBool(r.Intn(3) == 0)
	case reflect.String:
		v.SetString([]string{"a", "b", "A", "B", "#0", "a/v1", "b/v1"}[r.Intn(7)])
	case reflect.Slice:
		size := 0
		if levels > 0 {
			size = r.Intn(4)
		}
		v.Set(reflect.MakeSlice(v.Type(), size, size))
		for i := range size {
			fill(r, v.Index(i), levels-1)
		}
	case reflect.Struct:
		for i := range v.NumField() {
			fill(r, v.Field(i), levels-1)
		}
	}
}

// random returns a random tree, with or without its form.
func random[T any](r *rand.Rand, levels int) T {
	var result T
	fill(r, reflect.ValueOf(&result).Elem(), levels)
	return result
}

// duplicate returns a copy that shares no memory with a tree. Empty lists become nil.
func duplicate[T any](tree T) T {
	var result T
	duplicateTo(reflect.ValueOf(&result).Elem(), reflect.ValueOf(tree))
	return result
}

func duplicateTo(to, from reflect.Value) {
	switch from.Kind() {
	case reflect.Slice:
		if from.Len() > 0 {
			to.Set(reflect.MakeSlice(from.Type(), from.Len(), from.Len()))
		}
		for i := range from.Len() {
			duplicateTo(to.Index(i), from.Index(i))
		}
	case reflect.Struct:
		for i := range from.NumField() {
			duplicateTo(to.Field(i), from.Field(i))
		}
	default:
		to.Set(from)
	}
}

// same reports whether two trees are equal, by reflection.
func same[T any](a, b T) bool {
	return reflect.DeepEqual(duplicate(a), duplicate(b))
}

// memory adds the addresses of all lists of a value that are not empty, and reports whether each was new.
func memory(v reflect.Value, known map[uintptr]bool) bool {
	fresh := true
	switch v.Kind() {
	case reflect.Slice:
		if v.Len() > 0 {
			fresh = !known[v.Pointer()]
			known[v.Pointer()] = true
		}
		for i := range v.Len() {
			fresh = memory(v.Index(i), known) && fresh
		}
	case reflect.Struct:
		for i := range v.NumField() {
			fresh = memory(v.Field(i), known) && fresh
		}
	}
	return fresh
}

// checkNew checks that a result shares no memory with some arguments, and that its parts share none.
func checkNew(t *testing.T, what string, result any, arguments ...any) {
	t.Helper()
	known := map[uintptr]bool{}
	for _, argument := range arguments {
		memory(reflect.ValueOf(argument), known)
	}
	if !memory(reflect.ValueOf(result), known) {
		t.Fatalf("%s shares memory", what)
	}
}
