package module_test

import (
	"cmp"
	"math/rand"
	"reflect"
	"slices"
	"strconv"
	"strings"
	"sync"
	"testing"

	"modcert/api"
	"modcert/author"
	"modcert/environ"
	"modcert/extract"
	"modcert/module"
	"modcert/subtype"
	"modcert/syntax"
)

// P13.3: Load returns the resolved module of a source that is right, and Accepts reports whether it is; otherwise the error is that of the parser, that of the resolution, or that of the first diagnostic.
func TestLoad(t *testing.T) {
	env := library()
	for _, c := range []struct {
		source string
		err    api.Errno
	}{
		{"module m/v1", api.OK},
		{"module m/v1 import a/v1 as x export let v: x::N = x::n", api.OK},
		{"module m/v1 export type N <: {a: int} = {a: int, b: text} export let n: N = {a: 1, b: \"\"}", api.OK},
		{"module m/v1 let id[X]: fn(x: X) X = fn(x: X) => x let v: int = id[int](x: 1)", api.OK},
		{"", api.ErrSyntax},
		{"module m/v1 let", api.ErrSyntax},
		{"module m let v: int = 1", api.ErrName},
		{"module m/v1 let v: int = 9300000000000000000", api.ErrRange},
		{"module m/v1 let v: int = 1 let v: int = 1", api.ErrExists},
		{strings.Repeat(" ", api.MaxSource) + "module m/v1", api.ErrTooLarge},
		{"module m/v1 import m/v1 as m", api.ErrLoop},
		{"module m/v1 let v: int = w", api.ErrNotFound},
		{"module m/v1 let v: int = w let w: int = 1", api.ErrLoop},
		{"module m/v1 let v[X]: X[int] = 1", api.ErrArity},
		{"module m/v1 let v: z::T = 1", api.ErrNotFound},
		{"module m/v1 import z/v1 as z", api.ErrNotFound},
		{"module m/v1 type T = T", api.ErrLoop},
		{"module m/v1 type T[+A] = fn(x: A) int", api.ErrVariance},
		{"module m/v1 type T <: any = int", api.ErrPrivate},
		{"module m/v1 export type T <: int = text", api.ErrBound},
		{"module m/v1 let v: int = \"\"", api.ErrType},
		{"module m/v1 import a/v1 as a let v: a::Box = 1", api.ErrArity},
		// The parser, the resolution and the steps of the check come one after the other.
		{"module m/v1 import z/v1 as z let v: int = w let", api.ErrSyntax},
		{"module m/v1 import z/v1 as z let v: int = v", api.ErrLoop},
		{"module m/v1 import z/v1 as z type T = T", api.ErrNotFound},
		{"module m/v1 let v: int = \"\" export type T <: int = text type U <: any = int", api.ErrPrivate},
		{"module m/v1 let v: int = \"\" export type T <: int = text", api.ErrBound},
		{"module m/v1 type U <: any = int type T = T", api.ErrPrivate},
		{"module m/v1 type T = T type U <: any = int", api.ErrLoop},
	} {
		got, err := module.Load(env, c.source)
		var want api.Module
		if c.err == api.OK {
			want = resolved(c.source)
		}
		if err != c.err || !same(got, want) {
			t.Errorf("%s: %s, not %s: %+v", c.source[:min(len(c.source), 200)], errorName(err), errorName(c.err), got)
		}
		if module.Accepts(env, c.source) != (c.err == api.OK) {
			t.Errorf("%s is accepted, or is not", c.source[:min(len(c.source), 200)])
		}
	}
	// An interface of the module itself does not matter.
	env = naiveAdd(env, api.Interface{Path: "m/v1", Values: []api.ValueEntry{{Name: "v", Type: text}}})
	if m, err := module.Load(env, "module m/v1 let v: int = 1 let w: int = v"); err != api.OK || len(m.Decls) != 2 {
		t.Error(m, errorName(err))
	}
	if module.Accepts(nil, "module m/v1 import a/v1 as a") || !module.Accepts(nil, "module m/v1 let v: int = 1") {
		t.Error("an empty environment")
	}
}

// P13.3: Load of random sources has the module, or the first diagnostic.
func TestRandomLoads(t *testing.T) {
	t.Parallel()
	r := rand.New(rand.NewSource(133))
	right := 0
	for range 500 {
		env := randomEnv(r)
		s := source(rightlyMade(r, env))
		want := resolved(s)
		found := naive(env, want)
		expected := api.OK
		if len(found) > 0 {
			expected, want = found[0].Error, api.Module{}
		} else {
			right++
		}
		if got, err := module.Load(env, s); err != expected || !same(got, want) {
			t.Fatalf("%s: %s, not %s", s, errorName(err), errorName(expected))
		}
		if module.Accepts(env, s) != (expected == api.OK) {
			t.Fatal(s)
		}
	}
	if right < 100 {
		t.Error("only", right, "are right")
	}
}

// small returns the source of a module with a number.
func small(number int) string {
	return "module m" + strconv.Itoa(number) + "/v1 export let v: int = " + strconv.Itoa(number)
}

// P13.3: Build returns the environment and the program of some sources, both sorted by path, and 0.
func TestBuild(t *testing.T) {
	if env, p, i, err := module.Build(); len(env) > 0 || len(p) > 0 || i != 0 || err != api.OK {
		t.Error(env, p, i, err)
	}
	sources := []string{
		"module c/v1 export type N <: {a: int} = {a: int} export let n: N = {a: 1} let secret: int = 2",
		"module a/v1 import c/v1 as c export use c::N as M export let m: c::N = c::n type Local = int",
		"module b/v1 import a/v1 as a import c/v1 as c let v: a::M = c::n export let w: int = v.a",
		"module a/v2",
	}
	env, p, i, err := module.Build(sources...)
	var wantEnv api.Env
	var want api.Program
	for _, s := range sources {
		want = append(want, resolved(s))
		wantEnv = naiveAdd(wantEnv, naiveInterface(resolved(s)))
	}
	slices.SortFunc(want, func(a, b api.Module) int { return cmp.Compare(a.Path, b.Path) })
	if !same(env, wantEnv) || !same(p, want) || i != 0 || err != api.OK {
		t.Errorf("%+v %+v %d %d", env, p, i, err)
	}
	checkNew(t, "a built environment", env, p)
	checkNew(t, "a built program", p)
}

// P13.3: Build has the index and the error of the first source that is wrong, and nothing else.
func TestBuildErrors(t *testing.T) {
	a := "module a/v1 export let v: int = 1"
	var many []string
	for i := range api.MaxModules {
		many = append(many, small(i))
	}
	for _, c := range []struct {
		sources []string
		index   int
		err     api.Errno
	}{
		{[]string{""}, 0, api.ErrSyntax},
		{[]string{a, "module b"}, 1, api.ErrName},
		{[]string{a, a}, 1, api.ErrExists},
		{[]string{a, "module a/v2", "module a/v1"}, 2, api.ErrExists},
		{[]string{a, "module a/v1 let w: int = x let y: text = 1"}, 1, api.ErrExists},
		{[]string{a, "module a/v1 let"}, 1, api.ErrSyntax},
		{[]string{a, "module b/v1 let w: int = x"}, 1, api.ErrNotFound},
		{[]string{a, "module b/v1 let w: text = 1", "module b/v1", ""}, 1, api.ErrType},
		{[]string{"module b/v1 import a/v1 as a", a}, 0, api.ErrNotFound},
		{[]string{a, "module b/v1 import a/v1 as a let w: int = a::v", "module c/v1 import b/v1 as b let w: int = b::w"}, 2, api.ErrNotFound},
		{many, 0, api.OK},
		{append(slices.Clone(many), a), api.MaxModules, api.ErrTooLarge},
		{append(slices.Clone(many), small(7)), api.MaxModules, api.ErrExists},
		{append(slices.Clone(many), "module"), api.MaxModules, api.ErrSyntax},
		{append(slices.Clone(many), "module a/v1 let v: text = 1"), api.MaxModules, api.ErrType},
		{append(slices.Clone(many), "module a/v1 let v: text = w"), api.MaxModules, api.ErrNotFound},
		{append(slices.Clone(many), a, ""), api.MaxModules, api.ErrTooLarge},
		{many[1:], 0, api.OK},
	} {
		env, p, i, err := module.Build(c.sources...)
		if i != c.index || err != c.err {
			t.Errorf("%q: %d %s, not %d %s", c.sources[max(0, len(c.sources)-3):], i, errorName(err), c.index, errorName(c.err))
		}
		if size := len(c.sources); err != api.OK && (len(env) > 0 || len(p) > 0) || err == api.OK && (len(env) != size || len(p) != size) {
			t.Error(len(env), "interfaces and", len(p), "modules")
		}
	}
}

// P13.3: random sources that are right are built, in the order in which they use each other, to the environment and the program of their modules.
func TestRandomBuilds(t *testing.T) {
	t.Parallel()
	r := rand.New(rand.NewSource(1333))
	for range 100 {
		var env api.Env
		var want api.Program
		var sources []string
		for _, at := range r.Perm(5) {
			path := []string{"a/v1", "b/v1", "b/v2", "c/d/v0", "z/v1"}[at]
			m := author.Module(r.Intn, env, path)
			for len(naive(env, m)) > 0 {
				m = author.Module(r.Intn, env, path)
			}
			sources = append(sources, source(m))
			m = resolved(sources[len(sources)-1])
			env = naiveAdd(env, naiveInterface(m))
			want = append(want, m)
		}
		slices.SortFunc(want, func(a, b api.Module) int { return cmp.Compare(a.Path, b.Path) })
		got, p, i, err := module.Build(sources...)
		if !same(got, env) || !same(p, want) || i != 0 || err != api.OK {
			t.Fatal(sources, i, errorName(err))
		}
		if path, name, err := subtype.Valid(got); err != api.OK {
			t.Fatal(path, name, errorName(err))
		}
	}
}

// narrowed returns a type that is often a subtype of another one.
func narrowed(r *rand.Rand, env api.Env, t api.Type) api.Type {
	t = duplicate(t)
	if r.Intn(6) == 0 {
		return nothing
	}
	switch t.Kind {
	case api.TypeAny:
		return []api.Type{integer, text, anything, {Kind: api.TypeRecord}}[r.Intn(4)]
	case api.TypeRef:
		if lower, _, err := environ.Bounds(env, t); err == api.OK && r.Intn(2) == 0 {
			return lower
		}
		return t
	case api.TypeList, api.TypeFunc:
		t.Args[0] = narrowed(r, env, t.Args[0])
		return t
	}
	for i := range t.Fields {
		t.Fields[i].Type = narrowed(r, env, t.Fields[i].Type)
	}
	if t.Kind == api.TypeRecord && !slices.ContainsFunc(t.Fields, func(f api.Field) bool { return f.Name >= "y" }) {
		t.Fields = append(t.Fields, api.Field{Name: "y", Type: text})
	}
	if t.Kind == api.TypeVariant && len(t.Fields) > 0 && r.Intn(2) == 0 {
		t.Fields = t.Fields[1:]
	}
	return t
}

// P13.4: a module that is right stays right if the type of a value of a module that it uses is replaced by a subtype.
func TestReplacedTypes(t *testing.T) {
	t.Parallel()
	r := rand.New(rand.NewSource(1341))
	used := 0
	for range 500 {
		env := randomEnv(r)
		m := rightModule(r, env)
		other := duplicate(env)
		for i := range other {
			for k := range other[i].Values {
				v := &other[i].Values[k]
				if t := narrowed(r, env, v.Type); subtype.Is(env, v.Params, t, v.Type) {
					v.Type = t
				}
			}
		}
		if _, _, err := subtype.Valid(other); err != api.OK || same(env, other) {
			continue
		}
		used++
		if found := module.Check(other, m); len(found) > 0 {
			t.Fatalf("%s\n%+v\n%+v\n%s", source(m), env, other, shown(found))
		}
	}
	if used < 100 {
		t.Error("only", used, "environments")
	}
}

// P13.4: a module that is right stays right if interfaces with other paths are added.
func TestAddedInterfaces(t *testing.T) {
	t.Parallel()
	r := rand.New(rand.NewSource(1342))
	for range 120 {
		env := randomEnv(r)
		m := rightModule(r, env)
		for _, path := range []string{"m/v0", "m/v2", "a/v0", "zz/v1"} {
			other := author.Module(r.Intn, env, path)
			if len(naive(env, other)) == 0 {
				env = naiveAdd(env, naiveInterface(other))
			}
		}
		if found := module.Check(env, m); len(found) > 0 {
			t.Fatal(source(m), shown(found))
		}
	}
}

// P13.4: private declarations that nothing uses can be removed.
func TestRemovedDeclarations(t *testing.T) {
	t.Parallel()
	r := rand.New(rand.NewSource(1343))
	removed := 0
	for range 250 {
		env := randomEnv(r)
		m := rightModule(r, env)
		before := naiveInterface(m)
		for i := len(m.Decls) - 1; i >= 0; i-- {
			needed := m.Decls[i].Exported
			for _, d := range m.Decls {
				types, values := uses(d)
				needed = needed || slices.Contains(append(types, values...), api.Use{Module: m.Path, Name: m.Decls[i].Name})
			}
			if !needed {
				m.Decls = slices.Delete(m.Decls, i, i+1)
				removed++
			}
		}
		if found := module.Check(env, m); len(found) > 0 {
			t.Fatal(source(m), shown(found))
		}
		if after, err := extract.Interface(m); err != api.OK || !same(before, after) {
			t.Fatal(source(m))
		}
	}
	if removed < 40 {
		t.Error("only", removed, "are removed")
	}
}

// P1: all functions end, with an error, whatever they are given.
func TestEnds(t *testing.T) {
	t.Parallel()
	r := rand.New(rand.NewSource(1))
	within(t, "a call", func() {
		for i := range 1500 {
			env, m := random[api.Env](r, 6), random[api.Module](r, 6)
			if i%2 == 0 {
				env, m = spoiled(r, randomEnv(r)), resolved("module m/v1 import a/v1 as a import b/v1 as b let v: int = 1")
				m.Decls = random[[]api.Decl](r, 5)
			}
			module.Inside(env, m)
			module.Check(env, m)
		}
		for i := range 600 {
			env := spoiled(r, randomEnv(r))
			m := rightlyMade(r, env)
			if i%2 == 0 {
				m = spoiled(r, m)
			}
			module.Inside(env, m)
			module.Check(env, m)
			if _, err := syntax.CheckModule(m); err == api.OK {
				module.Load(env, "module m/v1 import a/v1 as a let v: a::T = a::v")
			}
		}
		for _, s := range []string{"", "\x00", "module", "module m/v1 " + strings.Repeat("(", 60000), strings.Repeat("module m/v1 ", 9), "module m/v1 let v: " + strings.Repeat("list[", 10000)} {
			module.Load(library(), s)
			module.Accepts(library(), s)
			module.Build(s, s)
		}
	})
}

// P1: types and expressions with many levels do not matter.
func TestDeepTrees(t *testing.T) {
	within(t, "a call", func() {
		deep, e := integer, api.Expr{}
		for range 1 << 16 {
			deep = list(deep)
			e = api.Expr{Kind: api.ExprInject, Name: "c", Kids: []api.Expr{e}}
		}
		m := resolved("module m/v1 export let v: int = 1")
		m.Decls[0].Type = deep
		if got := shown(module.Check(nil, m)); got != "0 ErrTooLarge" && got != "-1 ErrTooLarge" {
			t.Error(got)
		}
		m.Decls[0].Type, m.Decls[0].Expr = integer, e
		if got := shown(module.Check(nil, m)); got != "0 ErrTooLarge" && got != "-1 ErrTooLarge" {
			t.Error(got)
		}
		if env := module.Inside(nil, m); len(env) != 0 {
			t.Error(env)
		}
	})
}

// P2, P3: the results depend on the arguments alone, which are neither changed nor shared, also if several goroutines call at once.
func TestSharedUse(t *testing.T) {
	r := rand.New(rand.NewSource(3))
	for range 20 {
		env := randomEnv(r)
		m := rightlyMade(r, env)
		s := source(m)
		envBefore, before := duplicate(env), duplicate(m)
		inside, found := module.Inside(env, m), module.Check(env, m)
		loaded, err := module.Load(env, s)
		built, program, at, buildErr := module.Build(s, s)
		var group sync.WaitGroup
		for range 4 {
			group.Add(1)
			go func() {
				defer group.Done()
				again, err2 := module.Load(env, s)
				built2, program2, at2, buildErr2 := module.Build(s, s)
				if !same(module.Inside(env, m), inside) || !same(module.Check(env, m), found) || !same(again, loaded) || err2 != err || module.Accepts(env, s) != (err == api.OK) {
					t.Error("other results")
				}
				if !same(built2, built) || !same(program2, program) || at2 != at || buildErr2 != buildErr {
					t.Error("another program")
				}
			}()
		}
		group.Wait()
		if !reflect.DeepEqual(duplicate(env), envBefore) || !reflect.DeepEqual(duplicate(m), before) {
			t.Fatal("the arguments are changed")
		}
		checkNew(t, "Inside", inside, env, m)
		checkNew(t, "Check", found, env, m)
		checkNew(t, "Load", loaded, env)
	}
}

// P3: a later change of an argument or of a result changes no other result.
func TestLaterChanges(t *testing.T) {
	env := library()
	m := resolved("module m/v1 import a/v1 as a export type T[+A] <: {x: A} = {x: A, y: int} export let v: T[int] = {x: 1, y: 2}")
	inside := module.Inside(env, m)
	before := duplicate(inside)
	m.Decls[0].Type.Fields[0].Name = "changed"
	env[0].Types[0].Name = "Changed"
	if !same(inside, before) {
		t.Error("the result has changed")
	}
}
