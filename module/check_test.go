package module_test

import (
	"math/rand"
	"strconv"
	"strings"
	"testing"

	"modcert/api"
	"modcert/environ"
	"modcert/module"
	"modcert/subtype"
)

// diagnosed is a module in the library, with the diagnostics that it should have.
type diagnosed struct {
	source, want string
}

func checkDiagnoses(t *testing.T, env api.Env, cases []diagnosed) {
	t.Helper()
	for _, c := range cases {
		m := resolved("module m/v1 import a/v1 as a import b/v1 as b " + c.source)
		if got := shown(module.Check(env, m)); got != c.want {
			t.Errorf("%s\ngives %q, not %q", c.source, got, c.want)
		}
	}
}

// P13.2: modules that are right have no diagnostics.
func TestRight(t *testing.T) {
	checkDiagnoses(t, library(), []diagnosed{
		{"", ""},
		{"export type N <: {a: int} = {a: int, b: text} export let n: N = {a: 1, b: \"\"}", ""},
		{"type P = int let v: P = 1 export let w: int = v + 1", ""},
		{"export use a::N as N export use a::one as one use b::M as M use b::uno as uno", ""},
		{"export let v: a::N = a::n export let w: b::M = a::n export let x: {a: any} = b::uno + 1 < 2 and true === false", "2 ErrType x"},
		{"export let x: {a: any} = {a: b::uno, b: a::n.a}", ""},
		{"export let id[X <: {a: int}]: fn(x: X) int = fn(x: X) => x.a", ""},
		{"export type L = <more: {head: int, tail: L} | end: {}> export let l: L = <more: {head: 1, tail: <end: {}>}>", ""},
		{"export type T[+A, -B, =C] = fn(b: B, c: C) {a: A, c: C}", ""},
		{"type P = text export type T >: P = P", "1 ErrPrivate T"},
		{"type P = text export type T >: none <: any = P export let v: T = \"\"", ""},
		{"type P = {n: int} type Q = list[P] let q: Q = [P| {n: 1}] export let n: int = fold[int] p, s in q from 0 => s + p.n", ""},
		{"export deprecated \"no\" type T = int export deprecated \"no\" let v: T = 1", ""},
	})
}

// P13.2: the form of the module, with the index of the first declaration in which something is wrong, and an empty name.
func TestForm(t *testing.T) {
	right := "module m/v1 import a/v1 as a type T = int let v: T = 1 use a::N as U let w: int = 1"
	value := api.Expr{Kind: api.ExprValue, Module: "a", Name: "one"}
	ref := reference("a", "N")
	many := make([]api.Import, api.MaxImports+1)
	for _, c := range []struct {
		what   string
		change func(m *api.Module)
		want   string
	}{
		{"nothing", func(m *api.Module) {}, ""},
		{"path", func(m *api.Module) { m.Path = "m" }, "-1 ErrName"},
		{"imports", func(m *api.Module) { m.Imports = many }, "-1 ErrTooLarge"},
		{"import of itself", func(m *api.Module) { m.Imports[0].Path = "m/v1" }, "-1 ErrLoop"},
		{"import twice", func(m *api.Module) { m.Imports = append(m.Imports, m.Imports[0]) }, "-1 ErrExists"},
		{"kind", func(m *api.Module) { m.Decls[1].Kind = 3 }, "1 ErrArg"},
		{"name", func(m *api.Module) { m.Decls[2].Name = "1" }, "2 ErrName"},
		{"names", func(m *api.Module) { m.Decls[3].Name = "v" }, "3 ErrExists"},
		{"deprecated", func(m *api.Module) { m.Decls[1].Deprecated = true }, "1 ErrArg"},
		{"note", func(m *api.Module) { m.Decls[1].Exported, m.Decls[1].Note = true, "n" }, "1 ErrArg"},
		{"type", func(m *api.Module) { m.Decls[1].Type = list(api.Type{Kind: 99}) }, "1 ErrArg"},
		{"expression", func(m *api.Module) { m.Decls[3].Expr.Kids = []api.Expr{{}} }, "3 ErrArg"},
		{"two declarations", func(m *api.Module) { m.Decls[1].Kind, m.Decls[2].Name = 3, "1" }, "1 ErrArg"},
		{"alias of a facade", func(m *api.Module) { m.Decls[2].Module = "a" }, "2 ErrArg"},
		{"facade of itself", func(m *api.Module) { m.Decls[2].Module, m.Decls[2].Target = "m/v1", "T" }, "2 ErrArg"},
		{"alias in a definition", func(m *api.Module) { m.Decls[0].Type = ref }, "0 ErrArg"},
		{"alias in a lower bound", func(m *api.Module) { m.Decls[0].Lower = list(ref) }, "0 ErrArg"},
		{"alias in an upper bound", func(m *api.Module) { m.Decls[0].Upper = list(ref) }, "0 ErrArg"},
		{"alias in a type", func(m *api.Module) { m.Decls[1].Type = list(ref) }, "1 ErrArg"},
		{"no module in a type", func(m *api.Module) { m.Decls[1].Type = reference("", "T") }, "1 ErrArg"},
		{"alias in a bound", func(m *api.Module) { m.Decls[1].Params = []api.Param{{Name: "X", Bound: ref}} }, "1 ErrArg"},
		{"alias in an argument", func(m *api.Module) { m.Decls[1].Type = reference("a/v1", "Box", ref) }, "1 ErrArg"},
		{"alias of a value", func(m *api.Module) { m.Decls[3].Expr = value }, "3 ErrArg"},
		{"no module of a value", func(m *api.Module) { m.Decls[3].Expr = api.Expr{Kind: api.ExprValue, Name: "v"} }, "3 ErrArg"},
		{"alias in an expression", func(m *api.Module) {
			m.Decls[3].Expr = api.Expr{Kind: api.ExprInject, Name: "c", Kids: []api.Expr{value}}
		}, "3 ErrArg"},
		{"alias in an expression's type", func(m *api.Module) { m.Decls[3].Expr = api.Expr{Kind: api.ExprList, Types: []api.Type{ref}} }, "3 ErrArg"},
		{"alias in a label", func(m *api.Module) {
			m.Decls[3].Expr = api.Expr{Kind: api.ExprFunc, Labels: []api.Label{{Name: "x", Type: ref}}, Kids: []api.Expr{{}}}
		}, "3 ErrArg"},
		{"two aliases", func(m *api.Module) { m.Decls[3].Expr, m.Decls[1].Type = value, ref }, "1 ErrArg"},
		{"an alias, and behind it no form", func(m *api.Module) { m.Decls[0].Type, m.Decls[3].Name = ref, "" }, "3 ErrName"},
		{"no form, and no import", func(m *api.Module) { m.Imports, m.Decls[3].Name = nil, "" }, "3 ErrName"},
		{"an alias, and no import", func(m *api.Module) { m.Imports, m.Decls[3].Expr = nil, value }, "3 ErrArg"},
		{"a variable has no module", func(m *api.Module) {
			m.Decls[1].Params, m.Decls[1].Expr = []api.Param{{Name: "X"}}, api.Expr{Kind: api.ExprAscribe, Types: []api.Type{integer}, Kids: []api.Expr{{}}}
			m.Decls[1].Type = anything
		}, ""},
	} {
		m := resolved(right)
		c.change(&m)
		if got := shown(module.Check(library(), m)); got != c.want {
			t.Errorf("%s: %q, not %q", c.what, got, c.want)
		}
	}
}

// P13.2: imports without an interface, and declarations that refer to modules that are not imported, both together.
func TestImports(t *testing.T) {
	env := library()
	for i, c := range []struct {
		m    api.Module
		want string
	}{
		{resolved("module m/v1 import z/v1 as z"), "-1 ErrNotFound z/v1"},
		{resolved("module m/v1 import z/v1 as z import a/v1 as a import c/v1 as c"), "-1 ErrNotFound z/v1; -1 ErrNotFound c/v1"},
		{resolved("module m/v1 import a/v2 as a let v: a::N = a::n"), "-1 ErrNotFound a/v2"},
		{resolved("module m/v1 import a/v1 as a let v: text = 1"), "0 ErrType v"},
		{unimported("module m/v1 let v: int = 1 let w: int = v type T = {next: T}"), ""},
		{unimported("module m/v1 import a/v1 as a use a::N as N"), "0 ErrNotFound a/v1"},
		{unimported("module m/v1 import a/v1 as a let x: int = 1 let v: a::N = 1"), "1 ErrNotFound a/v1"},
		{unimported("module m/v1 import a/v1 as a let v[X <: any, Y <: list[a::N]]: int = 1"), "0 ErrNotFound a/v1"},
		{unimported("module m/v1 import a/v1 as a type T >: {x: a::N} = any"), "0 ErrNotFound a/v1"},
		{unimported("module m/v1 import a/v1 as a type T <: <x: a::N> = none"), "0 ErrNotFound a/v1"},
		{unimported("module m/v1 import a/v1 as a type T >: none <: any = fn(x: int) a::N"), "0 ErrNotFound a/v1"},
		{unimported("module m/v1 import a/v1 as a let v: int = a::one"), "0 ErrNotFound a/v1"},
		{unimported("module m/v1 import a/v1 as a let v: int = (fn(x: int = {y: a::one}.y) => x)()"), "0 ErrNotFound a/v1"},
		{unimported("module m/v1 import a/v1 as a let v: any = [a::N|]"), "0 ErrNotFound a/v1"},
		{unimported("module m/v1 import a/v1 as a let v: any = fn(x: {n: a::N}) => 1"), "0 ErrNotFound a/v1"},
		{unimported("module m/v1 import a/v1 as a let id[X]: any = 1 let v: any = id[list[a::N]]"), "1 ErrNotFound a/v1"},
		{unimported("module m/v1 import b/v1 as b import a/v1 as a let v: b::M = a::n let w: a::N = b::uno"), "0 ErrNotFound a/v1; 1 ErrNotFound a/v1"},
		{unimported("module m/v1 import z/v1 as z import b/v1 as b let v: z::M = 1 let w: int = 1 let u: b::M = z::f"), "0 ErrNotFound z/v1; 2 ErrNotFound b/v1"},
	} {
		if got := shown(module.Check(env, c.m)); got != c.want {
			t.Errorf("%d: %q, not %q", i, got, c.want)
		}
	}
	// Missing imports stand in front of declarations, whose names are those of modules; the imported ones are known.
	m := resolved("module m/v1 import z/v1 as z import a/v1 as a import b/v1 as b let v: a::N = b::uno let w: z::T = 1")
	m.Imports = []api.Import{{Path: "z/v1", Alias: "z"}, {Path: "b/v1", Alias: "b"}}
	if got := shown(module.Check(env, m)); got != "-1 ErrNotFound z/v1; 0 ErrNotFound a/v1" {
		t.Error(got)
	}
}

// P13.2: the signatures of facades.
func TestFacades(t *testing.T) {
	env := library()
	checkDiagnoses(t, env, []diagnosed{
		{"use a::N as N use a::n as n use b::M as M use b::uno as uno", ""},
		{"use a::Zz as N", "0 ErrNotFound N"},
		{"use a::zz as n", "0 ErrNotFound n"},
		{"use b::M as M use b::N as N use b::n as n use b::uno as one", "1 ErrNotFound N; 2 ErrNotFound n"},
		{"export use a::Box as N let v: N[int] = [int|] let w: list[N] = [int|]", "2 ErrArity w"},
		{"use a::zz as n let v: text = 1", "0 ErrNotFound n"},
	})
	// The way of a facade may have 64 further ones. A name that leads over 65 of them may exist in a valid environment.
	f, g := api.Interface{Path: "f/v1", Values: []api.ValueEntry{{Name: "v", Type: integer}}}, api.Interface{Path: "g/v1"}
	target := "v"
	for k := range 63 {
		name := "w" + strconv.Itoa(k+10)
		f.Aliases = append(f.Aliases, api.AliasEntry{Name: name, Module: "f/v1", Target: target})
		target = name
	}
	g.Aliases = []api.AliasEntry{{Name: "x", Module: "f/v1", Target: target}, {Name: "y", Module: "g/v1", Target: "x"}}
	env = api.Env{f, g}
	if path, name, err := subtype.Valid(env); err != api.OK {
		t.Fatal(path, name, err)
	}
	m := resolved("module m/v1 import g/v1 as g use g::x as x use g::y as y")
	if got := shown(module.Check(env, m)); got != "1 ErrLoop y" {
		t.Error(got)
	}
}

// P13.2: the signatures of types: well-formed inside, and then as declared, and then nothing private is shown.
func TestTypes(t *testing.T) {
	checkDiagnoses(t, library(), []diagnosed{
		{"type T = a::Zz", "0 ErrNotFound T"},
		{"type S = int type T = list[a::N[int]] type U = a::Box", "1 ErrArity T; 2 ErrArity U"},
		{"type T[+A] = fn(x: A) int", "0 ErrVariance T"},
		{"type T[-A] = A type U[+A] = a::Sink[A] type V[+A] = a::Cell[A] type W[=A] = a::Cell[a::Sink[A]]", "0 ErrVariance T; 1 ErrVariance U; 2 ErrVariance V"},
		{"type T = T", "0 ErrLoop T"},
		{"type T = U type U = a::Box[T]", "0 ErrLoop T; 1 ErrLoop U"},
		{"type T[+A] = {x: T[list[A]]}", "0 ErrLoop T"},
		{"export type T <: fn(x: a::Zz) int = int", "0 ErrNotFound T"},
		{"export type T >: {x: a::Box} = int", "0 ErrArity T"},
		{"export type T <: a::Zz = a::N[int]", "0 ErrArity T"},
		{"export type T[+A] >: fn(x: A) int = any", "0 ErrVariance T"},
		{"export type T[+A] <: fn(x: A) int = none", "0 ErrVariance T"},
		{"export type T <: T = int", "0 ErrLoop T"},
		{"export type T >: T <: any = int", "0 ErrLoop T"},
		{"export type T >: none <: any = T", "0 ErrLoop T"},
		{"export type T >: none <: any = int export type U >: {x: T} <: any = {x: U}", "1 ErrBound U"},
		// What is declared may be recursive, and what is inside not, and the other way round.
		{"export type T >: none <: {x: T} = {x: none}", ""},
		{"export type T >: none <: any = {x: T}", ""},
		{"type T <: any = int", "0 ErrPrivate T"},
		{"type T >: none = int type U = int", "0 ErrPrivate T"},
		{"type T >: int <: any = int type U >: int <: int = int", "0 ErrPrivate T"},
		{"type T >: none <: int = int", "0 ErrPrivate T"},
		{"type P = int export type T = P", "1 ErrPrivate T"},
		{"type P = int export type T >: P <: any = int", "1 ErrPrivate T"},
		{"type P = int export type T >: none <: list[P] = list[int]", "1 ErrPrivate T"},
		{"export type T <: {a: P} = {a: int} type P = int", "0 ErrPrivate T"},
		{"export type P = int export type T >: P <: list[P] = P", "1 ErrBound T"},
		{"type P = int type T = P", ""},
		{"type P = int export type T >: none <: any = P", ""},
		{"use a::N as P export type T = P", "1 ErrPrivate T"},
		{"export use a::N as P export type T = P", ""},
		{"use a::N as P export type T = a::N", ""},
		{"type N = int export type T = a::N", ""},
		{"type P[+A] = A export type T[+A] <: P[A] = A", "1 ErrPrivate T"},
		{"type P <: any = a::Zz", "0 ErrNotFound P"},
		{"export type T <: P = T type P = int", "0 ErrLoop T"},
	})
}

// P13.2: the signatures of values: well-formed inside, and nothing private is shown.
func TestValues(t *testing.T) {
	checkDiagnoses(t, library(), []diagnosed{
		{"let v: a::Zz = 1 let w: int = 1 let x: a::N[a::Zz] = 1", "0 ErrNotFound v; 2 ErrArity x"},
		{"let v[X <: a::Zz]: a::N[int] = 1", "0 ErrNotFound v"},
		{"let v[X, Y <: a::Box]: a::Zz = 1", "0 ErrArity v"},
		{"type P = int export let v: P = 1", "1 ErrPrivate v"},
		{"type P = int export let v: fn(x: {y: P}) int = 1", "1 ErrPrivate v"},
		{"type P = int export let v[X <: list[P]]: X = 1", "1 ErrPrivate v"},
		{"export let v[X, Y <: P, Z]: a::N = 1 type P = int", "0 ErrPrivate v"},
		{"type P = int let v[X <: P]: P = 1", ""},
		{"export type P = int export let v[X <: P]: P = 1", ""},
		{"type P = int export let v: int = (1 : P)", ""},
		{"use a::N as P export let v: P = a::n", "1 ErrPrivate v"},
		{"type N = int export let v: a::N = a::n", ""},
		{"type P = int export let v: a::Box[P] = 1 export let w: P = 1 let x: a::Zz = 1", "1 ErrPrivate v; 2 ErrPrivate w; 3 ErrNotFound x"},
		{"type P = int export let v[X <: P]: a::Zz = 1", "1 ErrNotFound v"},
	})
	// A variable that is no parameter.
	m := resolved("module m/v1 let v: int = 1 type T >: none <: any = int")
	m.Decls[0].Type, m.Decls[1].Lower = variable("X"), variable("Y")
	if got := shown(module.Check(nil, m)); got != "0 ErrName v; 1 ErrName T" {
		t.Error(got)
	}
	m.Decls[1].Lower, m.Decls[1].Type, m.Decls[0].Type = nothing, variable("Z"), list(variable("X"))
	if got := shown(module.Check(nil, m)); got != "0 ErrName v; 1 ErrName T" {
		t.Error(got)
	}
}

// P13.2: the bounds of types, inside and for others.
func TestBounds(t *testing.T) {
	checkDiagnoses(t, library(), []diagnosed{
		{"export type T <: {a: int} = {}", "0 ErrBound T"},
		{"export type T >: text <: any = int", "0 ErrBound T"},
		{"export type T >: {a: int} <: {} = {}", ""},
		{"export type T >: {} <: {a: int} = {a: int}", "0 ErrBound T"},
		{"export type S <: any = int export type T >: text <: text = int export type U <: text = int", "1 ErrBound T; 2 ErrBound U"},
		{"export type T <: a::N = a::N export type U <: {a: int} = a::N export type V >: a::N = {a: int}", ""},
		{"export type T >: {a: int, b: text} <: a::N = a::N", "0 ErrBound T"},
		{"export type T[+A] >: none <: list[A] = list[A] export type U[+A] >: none <: list[int] = list[A]", "1 ErrBound U"},
		{"export type T[=A] >: A <: any = A export type U[=A] >: int <: any = A export type V[=A] >: any <: any = A", "1 ErrBound U; 2 ErrBound V"},
		// Inside, the definitions of types are known, and outside, their bounds.
		{"export type P <: any = int export type T >: none <: P = int", ""},
		{"export type P <: any = int export type T >: int <: P = int", "1 ErrBound T"},
		{"export type P >: int = int export type T >: int <: P = int", ""},
		{"export type T >: int <: P = int export type U >: P <: int = int export type P >: none <: any = int", "0 ErrBound T; 1 ErrBound U"},
		{"export type P >: int = text export type T >: int <: P = int", "0 ErrBound P; 1 ErrBound T"},
		{"export type P[=A] >: none <: any = A export type T[=A] >: A <: P[A] = A", "1 ErrBound T"},
		{"export type P[=A] >: A <: any = A export type T[=A] >: A <: P[A] = A", ""},
		// The bounds are looked at before expressions, and all signatures before bounds.
		{"export let v: text = 1 export type T <: text = int", "1 ErrBound T"},
		{"export let v: text = 1 export type P <: any = int export type T >: int <: P = int", "2 ErrBound T"},
		{"export type T <: text = int export let v: a::Zz = 1", "1 ErrNotFound v"},
		{"export type P <: any = int export type T >: int <: P = int export type U <: text = int", "2 ErrBound U"},
	})
}

// P13.2: the expressions of values.
func TestExpressions(t *testing.T) {
	checkDiagnoses(t, library(), []diagnosed{
		{"export type P = text export let n: P = 1", "1 ErrType n"},
		{"let v: text = 1 let w: int = 1 let x: int = w(a: 1) let y: int = (fn(a: int) => a)()", "0 ErrType v; 2 ErrType x; 3 ErrArity y"},
		{"let v: a::N = {a: 1, b: \"\"} let w: {a: int} = a::n let x: {b: text} = a::n", "0 ErrType v; 2 ErrType x"},
		{"export type N <: {a: int} = {a: int, b: text} export let n: N = {a: 1, b: \"\"} export let b: text = n.b", ""},
		{"let id[X]: fn(x: X) X = fn(x: X) => x let v: int = id[int](x: 1) let w: int = id[text](x: \"\")", "2 ErrType w"},
		{"let v[X <: {a: int}]: fn(x: X) int = fn(x: X) => x.a let w[X]: fn(x: X) int = fn(x: X) => x.a", "1 ErrType w"},
		{"let v[X <: {a: int}]: int = 1 let w: int = v[{a: int}] + v[{}]", "1 ErrBound w"},
		{"let v[X, Y <: X]: fn(y: Y) X = fn(y: Y) => y let w[X, Y <: X]: fn(x: X) Y = fn(x: X) => x", "1 ErrType w"},
		{"let v: int = a::zz let w: int = a::id let x: any = [a::Zz|] let y: int = a::one[int]", "0 ErrNotFound v; 1 ErrArity w; 2 ErrNotFound x; 3 ErrArity y"},
		{"let v: any = fn(x: int = \"\") => x", "0 ErrType v"},
		{"use a::id as f let v: int = f[int](x: 1)", ""},
	})
	// A local variable that does not exist.
	m := resolved("module m/v1 let v: int = 1")
	m.Decls[0].Expr = api.Expr{Kind: api.ExprLocal, Name: "v"}
	if got := shown(module.Check(nil, m)); got != "0 ErrNotFound v" {
		t.Error(got)
	}
}

// P13.2: an interface of the module itself in the environment does not matter.
func TestOwnInterface(t *testing.T) {
	env := library()
	own := api.Interface{Path: "m/v1", Types: []api.TypeEntry{{Name: "Old", Lower: nothing, Upper: anything}}, Values: []api.ValueEntry{{Name: "v", Type: text}}}
	for _, source := range []string{
		"module m/v1 import a/v1 as a export let v: int = a::one export let w: int = v",
		"module m/v1 import a/v1 as a export let v: int = a::one export let w: text = v",
		"module m/v1 import a/v1 as a export let v: int = a::zz",
		"module m/v1",
	} {
		m := resolved(source)
		want := module.Check(env, m)
		if got := module.Check(naiveAdd(env, own), m); !same(got, want) {
			t.Errorf("%s: %s", source, shown(got))
		}
	}
	m := resolved("module m/v1 let v: int = 1")
	m.Decls[0].Type = reference("m/v1", "Old")
	if got := shown(module.Check(naiveAdd(env, own), m)); got != "0 ErrNotFound v" {
		t.Error(got)
	}
	// A facade of a module can lead to the module itself only in an environment that is not valid without it; the target is looked for without it all the same.
	env = naiveAdd(naiveAdd(nil, own), api.Interface{Path: "b/v1"})
	m = resolved("module m/v1 import b/v1 as b use b::T as T")
	if got := shown(module.Check(env, m)); got != "0 ErrNotFound T" {
		t.Error(got)
	}
}

// P13.2: the diagnostics of random modules, right and wrong, are those of a direct implementation of the chapter.
func TestRandomChecks(t *testing.T) {
	t.Parallel()
	r := rand.New(rand.NewSource(13))
	found := map[api.Errno]int{}
	steps := 0
	var env api.Env
	var made api.Module
	for i := range 4500 {
		if i%6 == 0 {
			env = randomEnv(r)
			made = rightlyMade(r, env)
		}
		m := made
		for range r.Intn(4) {
			m = spoiled(r, m)
		}
		want := naive(env, m)
		got := module.Check(env, m)
		if !same(got, want) {
			t.Fatalf("%+v\n%+v\ngives %s, not %s", env, m, shown(got), shown(want))
		}
		for _, d := range got {
			found[d.Error]++
		}
		if len(got) > 1 {
			steps++
		}
	}
	for _, err := range []api.Errno{api.ErrArg, api.ErrName, api.ErrExists, api.ErrNotFound, api.ErrType, api.ErrArity, api.ErrVariance, api.ErrBound, api.ErrLoop, api.ErrPrivate} {
		if found[err] == 0 {
			t.Error("there is no", errorName(err))
		}
	}
	if steps == 0 {
		t.Error("there are never two diagnostics")
	}
}

// P13.2: 64 declarations can have 64 diagnostics.
func TestManyDiagnostics(t *testing.T) {
	var b, want strings.Builder
	b.WriteString("module m/v1 ")
	for i := range api.MaxDecls {
		name := "v" + strconv.Itoa(i)
		b.WriteString("let " + name + ": text = " + strconv.Itoa(i) + " ")
		want.WriteString("; " + strconv.Itoa(i) + " ErrType " + name)
	}
	if got := shown(module.Check(nil, resolved(b.String()))); got != want.String()[2:] {
		t.Error(got)
	}
}

// P13.1: Inside has the inside interface of the module: all declarations, none of which is deprecated, and the definitions of types.
func TestInside(t *testing.T) {
	env := library()
	m := resolved(`module am/v1 import a/v1 as a
		export deprecated "no" type T[+A] <: {x: A} = {x: A, y: int}
		type P = list[T[int]]
		export let v[X <: P]: fn(x: X) P = 1
		let u: a::N = a::n
		use a::one as w
		export use a::N as M
	`)
	got := module.Inside(env, m)
	definition := api.Type{Kind: api.TypeRecord, Fields: []api.Field{{Name: "x", Type: variable("#0")}, {Name: "y", Type: integer}}}
	p := reference("am/v1", "P")
	ps := list(reference("am/v1", "T", integer))
	function := api.Type{Kind: api.TypeFunc, Fields: []api.Field{{Name: "x", Type: variable("#0")}}, Args: []api.Type{p}}
	want := api.Interface{
		Path:    "am/v1",
		Types:   []api.TypeEntry{{Name: "P", Lower: ps, Upper: ps}, {Name: "T", Params: []api.Param{{Name: "#0", Variance: api.Covariant}}, Lower: definition, Upper: definition}},
		Values:  []api.ValueEntry{{Name: "u", Type: reference("a/v1", "N")}, {Name: "v", Params: []api.Param{{Name: "#0", Bound: p}}, Type: function}},
		Aliases: []api.AliasEntry{{Name: "M", Module: "a/v1", Target: "N"}, {Name: "w", Module: "a/v1", Target: "one"}},
	}
	if !same(got, api.Env{env[0], want, env[1]}) {
		t.Errorf("%+v", got)
	}
	// An interface with its path is replaced, wherever it stands.
	last := append(duplicate(env), api.Interface{Path: "am/v1", Values: []api.ValueEntry{{Name: "old", Type: text}}})
	if got := module.Inside(last, m); !same(got, api.Env{env[0], want, env[1]}) {
		t.Errorf("%+v", got)
	}
	if got := module.Inside(nil, resolved("module m/v1")); !same(got, api.Env{{Path: "m/v1"}}) {
		t.Errorf("%+v", got)
	}
}

// P13.1: a module need not be right; without an interface, of itself or of all its declarations, it is left out.
func TestNoInside(t *testing.T) {
	env := library()
	own := naiveAdd(env, api.Interface{Path: "m/v1"})
	base := "module m/v1 import a/v1 as a export type T = int type P = int export let v: int = 1 let u: int = 1 use a::N as N"
	ref := reference("a", "N")
	for _, c := range []struct {
		what   string
		change func(m *api.Module)
		inside bool
	}{
		{"nothing", func(m *api.Module) {}, true},
		{"not right", func(m *api.Module) { m.Decls[2].Type, m.Decls[0].Type = text, reference("zz/v1", "T") }, true},
		{"an alias in an expression", func(m *api.Module) { m.Decls[2].Expr = api.Expr{Kind: api.ExprValue, Module: "a", Name: "n"} }, true},
		{"no form", func(m *api.Module) { m.Decls[2].Kind = 3 }, false},
		{"no form of what is private", func(m *api.Module) { m.Decls[3].Name = "" }, false},
		{"no form of an expression", func(m *api.Module) { m.Decls[3].Expr.Kind = 99 }, false},
		{"deprecated, and not exported", func(m *api.Module) { m.Decls[3].Deprecated = true }, false},
		{"a note, and not deprecated", func(m *api.Module) { m.Decls[2].Note = "n" }, false},
		{"no form of a bound", func(m *api.Module) { m.Decls[1].Upper = api.Type{Kind: 99} }, false},
		{"an alias in a bound of what is exported", func(m *api.Module) { m.Decls[0].Lower = ref }, false},
		{"an alias in a bound of what is private", func(m *api.Module) { m.Decls[1].Lower = ref }, true},
		{"an alias in a definition", func(m *api.Module) { m.Decls[0].Type = ref }, false},
		{"an alias in a private definition", func(m *api.Module) { m.Decls[1].Type = ref }, false},
		{"an alias in a type", func(m *api.Module) { m.Decls[2].Type = ref }, false},
		{"an alias in a private type", func(m *api.Module) { m.Decls[3].Type = list(ref) }, false},
		{"an alias of a private facade", func(m *api.Module) { m.Decls[4].Module = "a" }, false},
		{"a facade of the module itself", func(m *api.Module) { m.Decls[4].Module, m.Decls[4].Target = "m/v1", "T" }, true},
	} {
		m := resolved(base)
		c.change(&m)
		want := env
		if c.inside {
			want = naiveAdd(env, naiveView(m, true))
		}
		if got := module.Inside(own, m); !same(got, want) {
			t.Errorf("%s: %+v", c.what, got)
		}
	}
	bad := api.Module{Path: "b/v1", Imports: []api.Import{{}}}
	if got := module.Inside(env, bad); !same(got, env[:1]) {
		t.Errorf("%+v", got)
	}
	// The definition makes the module smaller than its bounds.
	large := resolved("module m/v1 export type T >: none <: any = int")
	large.Decls[0].Upper = api.Type{Kind: api.TypeRecord}
	for i := range api.MaxFields {
		name := "f" + strconv.Itoa(i/10) + strconv.Itoa(i%10)
		inner := api.Type{Kind: api.TypeFunc, Args: []api.Type{integer}}
		for k := range api.MaxFields {
			inner.Fields = append(inner.Fields, api.Field{Name: "f" + strconv.Itoa(k/10) + strconv.Itoa(k%10), Type: list(list(list(integer)))})
		}
		large.Decls[0].Upper.Fields = append(large.Decls[0].Upper.Fields, api.Field{Name: name, Type: inner})
	}
	if got := module.Inside(own, large); !same(got, env) {
		t.Errorf("%+v", got)
	}
}

// P13.1: Inside of random modules is that of a direct implementation.
func TestRandomInsides(t *testing.T) {
	t.Parallel()
	r := rand.New(rand.NewSource(131))
	for range 500 {
		env := randomEnv(r)
		m := rightlyMade(r, env)
		if got := module.Inside(env, m); !same(got, naiveAdd(env, naiveView(m, true))) {
			t.Fatalf("%+v\n%+v", m, got)
		}
	}
}

// P13.4: with the interface of a module that is right, the environment is valid, and so is Inside.
func TestValidEnvironments(t *testing.T) {
	t.Parallel()
	r := rand.New(rand.NewSource(134))
	for range 500 {
		env := randomEnv(r)
		m := rightModule(r, env)
		for _, env := range []api.Env{environ.Add(env, naiveInterface(m)), module.Inside(env, m)} {
			if path, name, err := subtype.Valid(env); err != api.OK {
				t.Fatalf("%+v: %s %s %s", m, path, name, errorName(err))
			}
		}
	}
}
