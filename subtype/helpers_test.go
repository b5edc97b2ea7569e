package subtype_test

import (
	"cmp"
	"fmt"
	"math/rand"
	"reflect"
	"slices"
	"strconv"
	"strings"
	"testing"
	"time"

	"modcert/api"
	"modcert/environ"
	"modcert/parser"
	"modcert/sample"
	"modcert/subtype"
	"modcert/wellformed"
)

var (
	anything = api.Type{Kind: api.TypeAny}
	nothing  = api.Type{Kind: api.TypeNone}
	integer  = api.Type{Kind: api.TypeInt}
	text     = api.Type{Kind: api.TypeText}
)

func variable(name string) api.Type {
	return api.Type{Kind: api.TypeVar, Name: name}
}

func reference(module, name string, args ...api.Type) api.Type {
	return api.Type{Kind: api.TypeRef, Module: module, Name: name, Args: args}
}

func list(t api.Type) api.Type {
	return api.Type{Kind: api.TypeList, Args: []api.Type{t}}
}

func record(fields ...api.Field) api.Type {
	return api.Type{Kind: api.TypeRecord, Fields: fields}
}

// resolved returns a type whose references to modules are paths: an alias becomes the path that a function tells, and so does an empty one, unless the name is a variable.
func resolved(t api.Type, path func(alias string) string, variables map[string]string) api.Type {
	if other, ok := variables[t.Name]; ok && t.Kind == api.TypeRef && t.Module == "" {
		return variable(other)
	}
	if t.Kind == api.TypeRef {
		t.Module = path(t.Module)
	}
	for i, part := range t.Args {
		t.Args[i] = resolved(part, path, variables)
	}
	for i, part := range t.Fields {
		t.Fields[i].Type = resolved(part.Type, path, variables)
	}
	return t
}

// typed returns the type of a source, in which m::N stands for a type of m/v1, and names without a module are variables.
func typed(source string) api.Type {
	t, at, err := parser.Type(source)
	if err != api.OK {
		panic(source + ": " + strconv.Itoa(at))
	}
	names := map[string]string{}
	for _, name := range strings.Fields("W X Y Z A B") {
		names[name] = name
	}
	for k := range api.MaxParams {
		names["P"+strconv.Itoa(k)] = "#" + strconv.Itoa(k)
	}
	return resolved(t, func(alias string) string { return alias + "/v1" }, names)
}

// judged returns the sides of a judgment, which are separated by <:.
func judged(source string) (api.Type, api.Type) {
	s, t, ok := strings.Cut(source, " <: ")
	if !ok {
		panic(source)
	}
	return typed(s), typed(t)
}

// context returns a context from variables with their bounds: X <: int, Y <: X.
func context(source string) api.Context {
	var result api.Context
	for _, part := range strings.Split(source, ", ") {
		name, bound, ok := strings.Cut(part, " <: ")
		if !ok {
			panic(source)
		}
		result = append(result, api.Param{Name: name, Bound: typed(bound)})
	}
	return result
}

// interfaceOf returns the interface of the source of a module, whose imports have the aliases of their paths without /v1.
func interfaceOf(source string) api.Interface {
	m, at, err := parser.Module(source)
	if err != api.OK {
		panic(source[at:])
	}
	i := api.Interface{Path: m.Path}
	path := func(alias string) string {
		if alias == "" {
			return m.Path
		}
		return alias + "/v1"
	}
	for _, d := range m.Decls {
		if d.Kind == api.DeclUse {
			i.Aliases = append(i.Aliases, api.AliasEntry{Name: d.Name, Module: path(d.Module), Target: d.Target})
			continue
		}
		e := api.TypeEntry{Name: d.Name}
		variables := map[string]string{}
		for k, param := range d.Params {
			variables[param.Name] = "#" + strconv.Itoa(k)
			e.Params = append(e.Params, api.Param{Name: variables[param.Name], Variance: param.Variance})
		}
		e.Lower, e.Upper = resolved(d.Lower, path, variables), resolved(d.Upper, path, variables)
		i.Types = append(i.Types, e)
	}
	slices.SortFunc(i.Types, func(a, b api.TypeEntry) int { return cmp.Compare(a.Name, b.Name) })
	slices.SortFunc(i.Aliases, func(a, b api.AliasEntry) int { return cmp.Compare(a.Name, b.Name) })
	return i
}

// environment returns the environment of the sources of modules, which is well-formed.
func environment(sources ...string) api.Env {
	var env api.Env
	for _, source := range sources {
		env = append(env, interfaceOf(source))
	}
	if path, err := wellformed.Env(env); err != api.OK {
		panic(path + ": " + strconv.Itoa(int(err)))
	}
	return env
}

// key is a text that no other judgment has.
func key(j api.Judgment) string {
	return fmt.Sprint(j.S, " <: ", j.T)
}

// naive decides judgments as the chapter says it: it strikes out, of all judgments that can be reached, those to which no rule applies, again and again. It gives up when there are too many.
func naive(env api.Env, context api.Context, s, t api.Type) (bool, bool) {
	start := api.Judgment{S: s, T: t}
	ways := map[string][][]string{}
	waiting := []api.Judgment{start}
	for len(waiting) > 0 {
		j := waiting[0]
		waiting = waiting[1:]
		if _, known := ways[key(j)]; known {
			continue
		}
		if len(ways) > 4000 {
			return false, false
		}
		var own [][]string
		for _, premises := range allWays(env, context, j) {
			way := []string{}
			for _, premise := range premises {
				way = append(way, key(premise))
			}
			own = append(own, way)
			waiting = append(waiting, premises...)
		}
		ways[key(j)] = own
	}
	struck := map[string]bool{}
	for changed := true; changed; {
		changed = false
		for name, own := range ways {
			works := func(way []string) bool {
				return !slices.ContainsFunc(way, func(premise string) bool { return struck[premise] })
			}
			if !struck[name] && !slices.ContainsFunc(own, works) {
				struck[name], changed = true, true
			}
		}
	}
	return !struck[key(start)], true
}

// allWays returns what a judgment depends on, by each of the rules that apply to it.
func allWays(env api.Env, context api.Context, j api.Judgment) [][]api.Judgment {
	var ways [][]api.Judgment
	s, t := j.S, j.T
	basic := s.Kind == api.TypeInt || s.Kind == api.TypeBool || s.Kind == api.TypeText
	if s.Kind == api.TypeNone || t.Kind == api.TypeAny || basic && s.Kind == t.Kind || s.Kind == api.TypeVar && t.Kind == api.TypeVar && s.Name == t.Name {
		ways = append(ways, nil)
	}
	if s.Kind == t.Kind {
		switch s.Kind {
		case api.TypeList:
			ways = append(ways, []api.Judgment{{S: s.Args[0], T: t.Args[0]}})
		case api.TypeRecord, api.TypeVariant, api.TypeFunc:
			ways = append(ways, structural(s, t)...)
		case api.TypeRef:
			ways = append(ways, nominal(env, s, t)...)
		}
	}
	if s.Kind == api.TypeVar {
		for _, param := range context {
			if param.Name == s.Name {
				ways = append(ways, []api.Judgment{{S: param.Bound, T: t}})
				break
			}
		}
	}
	if _, upper, err := environ.Bounds(env, s); err == api.OK {
		ways = append(ways, []api.Judgment{{S: upper, T: t}})
	}
	if lower, _, err := environ.Bounds(env, t); err == api.OK {
		ways = append(ways, []api.Judgment{{S: s, T: lower}})
	}
	return ways
}

// structural compares records, variants or functions by the names of their fields.
func structural(s, t api.Type) [][]api.Judgment {
	ofS, ofT := map[string]api.Field{}, map[string]api.Field{}
	names := map[string]bool{}
	for _, f := range s.Fields {
		ofS[f.Name], names[f.Name] = f, true
	}
	for _, f := range t.Fields {
		ofT[f.Name], names[f.Name] = f, true
	}
	premises := []api.Judgment{}
	for name := range names {
		a, inS := ofS[name]
		b, inT := ofT[name]
		switch {
		case inS && inT && s.Kind == api.TypeFunc:
			if b.Optional && !a.Optional {
				return nil
			}
			premises = append(premises, api.Judgment{S: b.Type, T: a.Type})
		case inS && inT:
			premises = append(premises, api.Judgment{S: a.Type, T: b.Type})
		case inS && s.Kind == api.TypeFunc && !a.Optional, inS && s.Kind == api.TypeVariant, inT && s.Kind != api.TypeVariant:
			return nil
		}
	}
	if s.Kind == api.TypeFunc {
		premises = append(premises, api.Judgment{S: s.Args[0], T: t.Args[0]})
	}
	return [][]api.Judgment{premises}
}

// nominal compares the arguments of references.
func nominal(env api.Env, s, t api.Type) [][]api.Judgment {
	a, inA, errA := environ.Type(env, s.Module, s.Name)
	b, inB, errB := environ.Type(env, t.Module, t.Name)
	if errA != api.OK || errB != api.OK || inA != inB || a.Name != b.Name || len(s.Args) != len(a.Params) || len(t.Args) != len(a.Params) {
		return nil
	}
	premises := []api.Judgment{}
	for i, param := range a.Params {
		up, down := api.Judgment{S: s.Args[i], T: t.Args[i]}, api.Judgment{S: t.Args[i], T: s.Args[i]}
		switch param.Variance {
		case api.Covariant:
			premises = append(premises, up)
		case api.Contravariant:
			premises = append(premises, down)
		default:
			premises = append(premises, up, down)
		}
	}
	return [][]api.Judgment{premises}
}

// randomEnv returns a valid environment, in which some types have a lower bound that is less than the upper one.
func randomEnv(r *rand.Rand) api.Env {
	env := sample.Choice(r.Intn).Env()
	g := generator{r: r, env: env}
	for at, i := range env {
		for k := range i.Types {
			e := &env[at].Types[k]
			lower, upper := e.Lower, e.Upper
			switch {
			case e.Lower.Kind == api.TypeNone:
				e.Lower = g.moved(e.Upper, false, 3)
			case e.Upper.Kind == api.TypeAny:
				e.Upper = g.moved(e.Lower, true, 3)
			}
			if path, _, err := subtype.Valid(env); err != api.OK {
				if path == "" {
					panic("there is an error without a path")
				}
				e.Lower, e.Upper = lower, upper
			}
		}
	}
	return env
}

// generator makes types with some variables for an environment.
type generator struct {
	r         *rand.Rand
	env       api.Env
	variables []string
}

// names returns the names of the types of the environment, with those of facades.
func (g generator) names() []api.Use {
	var uses []api.Use
	for _, i := range g.env {
		for _, name := range environ.Exports(i) {
			if _, _, err := environ.Type(g.env, i.Path, name); err == api.OK {
				uses = append(uses, api.Use{Module: i.Path, Name: name})
			}
		}
	}
	return uses
}

func (g generator) fields(levels int) []api.Field {
	var fields []api.Field
	for _, name := range []string{"a", "b", "c"} {
		if g.r.Intn(2) == 0 {
			fields = append(fields, api.Field{Name: name, Type: g.typed(levels)})
		}
	}
	return fields
}

// typed returns a random type.
func (g generator) typed(levels int) api.Type {
	kind := g.r.Intn(13)
	if levels == 0 {
		kind = g.r.Intn(9)
	}
	switch kind {
	case 0, 1, 2, 3, 4:
		return api.Type{Kind: kind}
	case 9:
		return list(g.typed(levels - 1))
	case 10:
		return record(g.fields(levels - 1)...)
	case 11:
		return api.Type{Kind: api.TypeVariant, Fields: g.fields(levels - 1)}
	case 12:
		t := api.Type{Kind: api.TypeFunc, Fields: g.fields(levels - 1), Args: []api.Type{g.typed(levels - 1)}}
		for i := range t.Fields {
			t.Fields[i].Optional = g.r.Intn(2) == 0
		}
		return t
	}
	names := g.names()
	if len(g.variables) > 0 && (len(names) == 0 || g.r.Intn(3) == 0) {
		return variable(g.variables[g.r.Intn(len(g.variables))])
	}
	if len(names) == 0 {
		return integer
	}
	use := names[g.r.Intn(len(names))]
	e, _, _ := environ.Type(g.env, use.Module, use.Name)
	t := reference(use.Module, use.Name)
	for range e.Params {
		if levels == 0 {
			t.Args = append(t.Args, api.Type{Kind: g.r.Intn(5)})
		} else {
			t.Args = append(t.Args, g.typed(levels-1))
		}
	}
	return t
}

// moved returns a type that is often a supertype (up), or a subtype, of another one.
func (g generator) moved(t api.Type, up bool, levels int) api.Type {
	switch {
	case g.r.Intn(25) == 0:
		return g.typed(1)
	case g.r.Intn(12) == 0 && up:
		return anything
	case g.r.Intn(12) == 0:
		return nothing
	case levels == 0 || g.r.Intn(4) == 0:
		return t
	}
	if lower, upper, err := environ.Bounds(g.env, t); err == api.OK && g.r.Intn(2) == 0 {
		if !up {
			upper = lower
		}
		return g.moved(upper, up, levels-1)
	}
	result := api.Type{Kind: t.Kind, Module: t.Module, Name: t.Name}
	entry, _, _ := environ.Type(g.env, t.Module, t.Name)
	for i, part := range t.Args {
		switch {
		case t.Kind == api.TypeList || t.Kind == api.TypeFunc || entry.Params[i].Variance == api.Covariant:
			part = g.moved(part, up, levels-1)
		case entry.Params[i].Variance == api.Contravariant:
			part = g.moved(part, !up, levels-1)
		}
		result.Args = append(result.Args, part)
	}
	for _, f := range t.Fields {
		direction := up != (t.Kind == api.TypeFunc)
		// A supertype has fewer fields, a subtype fewer cases, and either of both may have fewer optional parameters.
		if g.r.Intn(6) == 0 && (t.Kind == api.TypeRecord && up || t.Kind == api.TypeVariant && !up || t.Kind == api.TypeFunc && up && f.Optional) {
			continue
		}
		f.Type = g.moved(f.Type, direction, levels-1)
		if t.Kind == api.TypeFunc && g.r.Intn(4) == 0 {
			f.Optional = !up
		}
		result.Fields = append(result.Fields, f)
	}
	return result
}

// within checks that a function ends soon.
func within(t *testing.T, what string, do func()) {
	t.Helper()
	done := make(chan struct{})
	go func() {
		defer close(done)
		do()
	}()
	select {
	case <-done:
	case <-time.After(time.Minute):
		t.Fatalf("%s does not end", what)
	}
}

// fill gives a value random contents, of at most so many levels, from a few names, so that they refer to each other now and then.
func fill(r *rand.Rand, v reflect.Value, levels int) {
	switch v.Kind() {
	case reflect.Int:
		v.SetInt(int64(r.Intn(14) - 1))
	case reflect.Bool:
		v.SetBool(r.Intn(3) == 0)
	case reflect.String:
		v.SetString([]string{"a", "b", "A", "B", "#0", "a/v1", "b/v1"}[r.Intn(7)])
	case reflect.Slice:
		size := 0
		if levels > 0 {
			size = r.Intn(4)
		}
		v.Set(reflect.MakeSlice(v.Type(), size, size))
		for i := range size {
			fill(r, v.Index(i), levels-1)
		}
	case reflect.Struct:
		for i := range v.NumField() {
			fill(r, v.Field(i), levels-1)
		}
	}
}

// random returns a random tree, with or without its form.
func random[T any](r *rand.Rand, levels int) T {
	var result T
	fill(r, reflect.ValueOf(&result).Elem(), levels)
	return result
}

// duplicate returns a copy that shares no memory with a tree. Empty lists become nil.
func duplicate[T any](tree T) T {
	var result T
	duplicateTo(reflect.ValueOf(&result).Elem(), reflect.ValueOf(tree))
	return result
}

func duplicateTo(to, from reflect.Value) {
	switch from.Kind() {
	case reflect.Slice:
		if from.Len() > 0 {
			to.Set(reflect.MakeSlice(from.Type(), from.Len(), from.Len()))
		}
		for i := range from.Len() {
			duplicateTo(to.Index(i), from.Index(i))
		}
	case reflect.Struct:
		for i := range from.NumField() {
			duplicateTo(to.Field(i), from.Field(i))
		}
	default:
		to.Set(from)
	}
}

// same reports whether two trees are equal, by reflection.
func same[T any](a, b T) bool {
	return reflect.DeepEqual(duplicate(a), duplicate(b))
}

// memory adds the addresses of all lists of a value that are not empty, and reports whether each was new.
func memory(v reflect.Value, known map[uintptr]bool) bool {
	fresh := true
	switch v.Kind() {
	case reflect.Slice:
		if v.Len() > 0 {
			fresh = !known[v.Pointer()]
			known[v.Pointer()] = true
		}
		for i := range v.Len() {
			fresh = memory(v.Index(i), known) && fresh
		}
	case reflect.Struct:
		for i := range v.NumField() {
			fresh = memory(v.Field(i), known) && fresh
		}
	}
	return fresh
}

// checkNew checks that a result shares no memory with some arguments, and that its parts share none.
func checkNew(t *testing.T, what string, result any, arguments ...any) {
	t.Helper()
	known := map[uintptr]bool{}
	for _, argument := range arguments {
		memory(reflect.ValueOf(argument), known)
	}
	if !memory(reflect.ValueOf(result), known) {
		t.Fatalf("%s shares memory", what)
	}
}
