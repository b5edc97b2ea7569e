package scope_test

import (
	"math/rand"
	"reflect"
	"strconv"
	"strings"
	"sync"
	"testing"

	"modcert/api"
	"modcert/parser"
	"modcert/printer"
	"modcert/sample"
	"modcert/scope"
	"modcert/syntax"
)

// checkResolve checks the declarations to which some of a source are resolved.
func checkResolve(t *testing.T, source, want string) {
	t.Helper()
	m := parsed(head + source)
	expected := absolute(head + want)
	got, index, err := scope.Resolve(m)
	if err != api.OK || index != 0 || !same(got, expected) {
		t.Errorf("%s is resolved to %v with the error %d at %d", source, got.Decls, err, index)
	}
}

// P10.1: types, and the variables in front of those around them.
func TestResolveTypes(t *testing.T) {
	for source, want := range map[string]string{
		"":                                   "",
		"type P[+A] = list[A]":               "type P[+A] = list[V_A]",
		"type N = N":                         "type N = m_v1::N",
		"type N = {a: M, b: int} type M = N": "type N = {a: m_v1::M, b: int} type M = m_v1::N",
		"type N[=A, -B] >: A <: B = {a: A}":  "type N[=A, -B] >: V_A <: V_B = {a: V_A}",
		"type N[=A] >: <a: A> <: fn(b?: A) A = A":                 "type N[=A] >: <a: V_A> <: fn(b?: V_A) V_A = V_A",
		"type A = int type N[=A] = A":                             "type A = int type N[=A] = V_A",
		"type N[=N] = list[N]":                                    "type N[=N] = list[V_N]",
		"type N[=A] = a::A[A, N[A]]":                              "type N[=A] = a_v1::A[V_A, m_v1::N[V_A]]",
		"type N = a::N type M = b::N[a::M, N]":                    "type N = a_v1::N type M = b_c_v2::N[a_v1::M, m_v1::N]",
		"type N = a::Unknown[N[N]]":                               "type N = a_v1::Unknown[m_v1::N[m_v1::N]]",
		"use a::N as N type M = N":                                "use a_v1::N as N type M = m_v1::N",
		"type M = N use b::Other as N":                            "type M = m_v1::N use b_c_v2::Other as N",
		"export type N = int":                                     "export type N = int",
		"export deprecated \"old\" use a::f as g":                 "export deprecated \"old\" use a_v1::f as g",
		"type A = B[C] type B[+A] = A type C = A":                 "type A = m_v1::B[m_v1::C] type B[+A] = V_A type C = m_v1::A",
		"let v[X, Y <: X, Z <: list[Y]]: {a: X, b: Y, c: Z} = 1":  "let v[X, Y <: V_X, Z <: list[V_Y]]: {a: V_X, b: V_Y, c: V_Z} = 1",
		"type X = int let v[Y <: X, X <: X]: X = 1":               "type X = int let v[Y <: m_v1::X, X <: m_v1::X]: V_X = 1",
		"type X = int let v[X, Y <: X]: Y = 1 let w: X = 1":       "type X = int let v[X, Y <: V_X]: V_Y = 1 let w: m_v1::X = 1",
		"let v[X <: a::X, Y <: b::X[X]]: N[Y] = 1 type N[=A] = A": "let v[X <: a_v1::X, Y <: b_c_v2::X[V_X]]: m_v1::N[V_Y] = 1 type N[=A] = V_A",
		"let v: fn(a: N) N = (1 : N) type N = int":                "let v: fn(a: m_v1::N) m_v1::N = (1 : m_v1::N) type N = int",
	} {
		checkResolve(t, source, want)
	}
}

// P10.1: values and local variables, in each of the expressions that have some.
func TestResolveValues(t *testing.T) {
	const before = "let v: int = 1 let w: int = 2 "
	for source, want := range map[string]string{
		"v":                                            "m_v1::v",
		"v + w":                                        "m_v1::v + m_v1::w",
		"a::v":                                         "a_v1::v",
		"a::x[int]":                                    "a_v1::x[int]",
		"b::v[N, X, a::N]":                             "b_c_v2::v[m_v1::N, V_X, a_v1::N]",
		"v[X]":                                         "m_v1::v[V_X]",
		"v[N[X]]":                                      "m_v1::v[m_v1::N[V_X]]",
		"let v = 2 in v + v":                           "let v = 2 in v + v",
		"let v = v in v":                               "let v = m_v1::v in v",
		"let x = v in x + v":                           "let x = m_v1::v in x + m_v1::v",
		"let x = let x = v in x in x":                  "let x = let x = m_v1::v in x in x",
		"let x = 1 in let y = x in x + y":              "let x = 1 in let y = x in x + y",
		"let x = 1 in let x = x in x":                  "let x = 1 in let x = x in x",
		"let v = 1 in a::v + v":                        "let v = 1 in a_v1::v + v",
		"(let v = 1 in v) + v":                         "(let v = 1 in v) + m_v1::v",
		"let w = 1 in v[X]":                            "let w = 1 in m_v1::v[V_X]",
		"fn(v: N) => v":                                "fn(v: m_v1::N) => v",
		"fn(v: X, y: N = v) => v + y + w":              "fn(v: V_X, y: m_v1::N = m_v1::v) => v + y + m_v1::w",
		"fn(v: int = v, w: int = w) => v":              "fn(v: int = m_v1::v, w: int = m_v1::w) => v",
		"fn(v: int = v, x: int) => v + x":              "fn(v: int = m_v1::v, x: int) => v + x",
		"fn() => v":                                    "fn() => m_v1::v",
		"fn(x: int) => fn(y: int = x) => x + y":        "fn(x: int) => fn(y: int = x) => x + y",
		"fn(x: int) => fn(x: int = x) => x":            "fn(x: int) => fn(x: int = x) => x",
		"fn(f: fn(v: int) X) => f(v: v)":               "fn(f: fn(v: int) V_X) => f(v: m_v1::v)",
		"v(v: v, w: w)":                                "m_v1::v(v: m_v1::v, w: m_v1::w)",
		"{v: v, w: a::w}":                              "{v: m_v1::v, w: a_v1::w}",
		"v.v":                                          "m_v1::v.v",
		"<v: v>":                                       "<v: m_v1::v>",
		"if[N] v then v else w":                        "if[m_v1::N] m_v1::v then m_v1::v else m_v1::w",
		"match[X] v {c v => v, d x => v + x}":          "match[V_X] m_v1::v {c v => v, d x => m_v1::v + x}",
		"match[N] v {c x => x, d w => w + v}":          "match[m_v1::N] m_v1::v {c x => x, d w => w + m_v1::v}",
		"match[N] v {v w => w + v, w v => w + v}":      "match[m_v1::N] m_v1::v {v w => w + m_v1::v, w v => m_v1::w + v}",
		"match[N] v {}":                                "match[m_v1::N] m_v1::v {}",
		"fold[N] v, w in v from w => v + w":            "fold[m_v1::N] v, w in m_v1::v from m_v1::w => v + w",
		"fold[N] w, x in [X| v] from w => v + w + x":   "fold[m_v1::N] w, x in [V_X| m_v1::v] from m_v1::w => m_v1::v + w + x",
		"fold[N] x, w in [a::X| v, w] from w => v + w": "fold[m_v1::N] x, w in [a_v1::X| m_v1::v, m_v1::w] from m_v1::w => m_v1::v + w",
		"let x = 1 in fold[X] y, z in x from x => x":   "let x = 1 in fold[V_X] y, z in x from x => x",
		"let x = fold[X] x, y in v from v => x in x":   "let x = fold[V_X] x, y in m_v1::v from m_v1::v => x in x",
		"(v : fn(v: X, w?: N) N)":                      "(m_v1::v : fn(v: V_X, w?: m_v1::N) m_v1::N)",
		"not v and length w < 1":                       "not m_v1::v and length m_v1::w < 1",
		"\"v\" ++ \"w\"":                               "\"v\" ++ \"w\"",
		"[N|]":                                         "[m_v1::N|]",
		"true":                                         "true",
	} {
		checkResolve(t, before+"type N[=A] = A let e[X]: X = "+source, before+"type N[=A] = V_A let e[X]: V_X = "+want)
	}
	checkResolve(t, "use a::f as g let v: int = g use a::f as h let w: int = g(x: h) + v", "use a_v1::f as g let v: int = m_v1::g use a_v1::f as h let w: int = m_v1::g(x: m_v1::h) + m_v1::v")
	checkResolve(t, "let v: int = 1 let w: int = let v = 2 in v + v let x: int = v", "let v: int = 1 let w: int = let v = 2 in v + v let x: int = m_v1::v")
}

// checkError checks the index and the error of a function, and that its tree is empty.
func checkError(t *testing.T, what string, resolve func(api.Module) (api.Module, int, api.Errno), m api.Module, index int, err api.Errno) {
	t.Helper()
	tree, gotIndex, got := resolve(m)
	if gotIndex != index || got != err || !same(tree, api.Module{}) {
		t.Errorf("%s: the error is %d at %d, not %d at %d, and the tree is %v", what, got, gotIndex, err, index, tree)
	}
}

// P10.1: names without a meaning.
func TestResolveErrors(t *testing.T) {
	for source, want := range map[string]api.Errno{
		"type N = A": api.ErrNotFound, "type N = list[A]": api.ErrNotFound, "type N = {a: int, b: A}": api.ErrNotFound, "type N = fn(a: A) int": api.ErrNotFound, "type N = fn() A": api.ErrNotFound, "type N = N[A]": api.ErrNotFound, "type N = a::N[A]": api.ErrNotFound, "type N = c::N": api.ErrNotFound, "type N = m::N": api.ErrNotFound, "type N = <x: c::N>": api.ErrNotFound, "type N = A[int]": api.ErrNotFound,
		"type N >: A <: any = int": api.ErrNotFound, "type N <: A = int": api.ErrNotFound, "type N <: int = A": api.ErrNotFound, "use c::f as f": api.ErrNotFound, "use m::F as F": api.ErrNotFound,
		"let v[X <: X]: int = 1": api.ErrNotFound, "let v[X <: Y, Y]: int = 1": api.ErrNotFound, "let v[X <: list[A]]: int = 1": api.ErrNotFound, "let v[X <: c::N]: int = 1": api.ErrNotFound, "let v: A = 1": api.ErrNotFound, "let v: c::N = 1": api.ErrNotFound,
		"let v: int = x": api.ErrNotFound, "let v: int = c::x": api.ErrNotFound, "let v: int = x[int]": api.ErrNotFound, "let v: int = a::x[A]": api.ErrNotFound, "let v: int = c::x[int]": api.ErrNotFound, "let v: int = (1 : A)": api.ErrNotFound, "let v: int = [A|]": api.ErrNotFound, "let v: int = fn(x: A) => x": api.ErrNotFound, "let v: int = fn(x: int = x) => x": api.ErrNotFound, "let v: int = fn(x: int, y: int = x) => x": api.ErrNotFound, "let v: int = let x = x in 1": api.ErrNotFound, "let v: int = (let x = 1 in 1) + x": api.ErrNotFound, "let v: int = match[int] x {c x => x}": api.ErrNotFound, "let v: int = match[int] 1 {c x => x, d y => x}": api.ErrNotFound, "let v: int = match[int] 1 {x y => x}": api.ErrNotFound, "let v: int = fold[int] x, y in x from 1 => 1": api.ErrNotFound, "let v: int = fold[int] x, y in 1 from y => 1": api.ErrNotFound, "let v: int = if[int] true then 1 else x": api.ErrNotFound, "let v: int = {v: 1}.x + x": api.ErrNotFound, "let v: int = not x": api.ErrNotFound, "let v: int = <x: x>": api.ErrNotFound, "let v: int = 1(x: x)": api.ErrNotFound, "let v: int = x(x: 1)": api.ErrNotFound,
		"type N[=A] = A[int]": api.ErrArity, "type N[=A] = list[A[A]]": api.ErrArity, "type N[=N] = N[int]": api.ErrArity, "type N[=A] >: A[int] <: any = int": api.ErrArity, "let v[X]: X[int] = 1": api.ErrArity, "let v[X, Y <: X[int]]: int = 1": api.ErrArity, "let v[X]: int = (1 : X[X])": api.ErrArity, "type N[=A] = A[c::N]": api.ErrArity, "type N[=A] = A[B]": api.ErrArity,
		"let v: int = let x = 1 in x[int]": api.ErrArity, "let v: int = fn(x: int) => x[int]": api.ErrArity, "let v: int = match[int] 1 {c x => x[int]}": api.ErrArity, "let v: int = fold[int] x, y in 1 from 1 => x[int]": api.ErrArity, "let v: int = fold[int] x, y in 1 from 1 => y[int]": api.ErrArity, "let v: int = let v = 1 in v[int]": api.ErrArity, "let v: int = let x = 1 in x[A]": api.ErrArity,
		"let v: int = v": api.ErrLoop, "let v: int = w let w: int = 1": api.ErrLoop, "let v: int = 1 + v": api.ErrLoop, "let v: int = f use a::f as f": api.ErrLoop, "let v: int = v[int]": api.ErrLoop, "let v: int = v[A]": api.ErrLoop, "let v: int = let v = v in 1": api.ErrLoop, "let v: int = fn(v: int = v) => v": api.ErrLoop, "let v: int = (let w = 1 in w) + w let w: int = 1": api.ErrLoop,
	} {
		checkError(t, source, scope.Resolve, parsed(head+source), 0, want)
		checkError(t, "behind others: "+source, scope.Resolve, parsed(head+"let p: int = 1 type P = int "+source), 2, want)
		checkError(t, "in front of others: "+source, scope.Resolve, parsed(head+source+" let z: int = unknown type Z = Unknown"), 0, want)
	}
}

// P10.1: the first error of a declaration, in the order of its parts.
func TestFirstError(t *testing.T) {
	for source, want := range map[string]api.Errno{
		"let v[X <: A, Y <: X[int]]: int = v": api.ErrNotFound, "let v[X, Y <: X[int], Z <: A]: A = v": api.ErrArity, "let v[X <: int]: X[int] = x": api.ErrArity, "let v[X]: A = (v : X[int])": api.ErrNotFound, "let v[X]: X = v(a: x)": api.ErrLoop, "let v[X]: X = (v : X[int])": api.ErrArity,
		"type N[=A] >: B <: A[int] = int": api.ErrNotFound, "type N[=A] >: A[int] <: B = int": api.ErrArity, "type N[=A] <: B = A[int]": api.ErrNotFound, "type N[=A] <: A[int] = B": api.ErrArity,
		"type N[=A] = {a: B, b: A[int]}": api.ErrNotFound, "type N[=A] = {a: A[int], b: B}": api.ErrArity, "type N[=A] = fn(a: B) A[int]": api.ErrArity, "type N[=A] = fn(a: A[int]) B": api.ErrNotFound, "type N[=A] = a::N[B, A[int]]": api.ErrNotFound, "type N[=A] = a::N[A[int], B]": api.ErrArity, "type N[=A] = c::N[A[int]]": api.ErrNotFound, "type N[=A] = B[A[int]]": api.ErrNotFound, "type N[=A] = {a: {b: A[int]}, c: B}": api.ErrArity,
		"let v[X]: int = c::x[X[int]]": api.ErrNotFound, "let v[X]: int = v[X[int]]": api.ErrLoop, "let v[X]: int = (x : X[int])": api.ErrArity, "let v[X]: int = fn(a: X[int], b: B = v) => v": api.ErrArity, "let v[X]: int = fn(a: B, b: X[int]) => v": api.ErrNotFound, "let v: int = fn(a: int = v, b: int = c) => d": api.ErrLoop, "let v: int = fn(a: int = d) => v": api.ErrNotFound, "let v: int = fn(a: int) => v + d": api.ErrLoop, "let v: int = let x = d in v": api.ErrNotFound, "let v: int = let x = v in d": api.ErrLoop, "let v[X]: int = if[X[int]] v then d else d": api.ErrArity, "let v: int = if[int] 1 then v else d": api.ErrLoop, "let v: int = if[int] d then v else v": api.ErrNotFound,
		"let v[X]: int = match[X[int]] v {c x => d}": api.ErrArity, "let v: int = match[int] v {c x => d}": api.ErrLoop, "let v: int = match[int] 1 {c x => d, e y => v}": api.ErrNotFound, "let v[X]: int = fold[X[int]] x, y in v from d => d": api.ErrArity, "let v: int = fold[int] x, y in 1 from v => d": api.ErrLoop, "let v: int = fold[int] x, y in d from v => v": api.ErrNotFound, "let v: int = fold[int] x, y in 1 from 1 => x[d::N] + v": api.ErrArity, "let v[X]: int = [X[int]| v, d]": api.ErrArity, "let v: int = [int| v, d]": api.ErrLoop, "let v: int = {a: d, b: v}": api.ErrNotFound, "let v: int = v(a: d)": api.ErrLoop, "let v: int = d(a: v)": api.ErrNotFound, "let v: int = (v + d) + d": api.ErrLoop, "let v[X]: int = ((d : int) : X[int])": api.ErrArity,
	} {
		checkError(t, source, scope.Resolve, parsed(head+source), 0, want)
	}
	checkError(t, "the first declaration", scope.Resolve, parsed(head+"type N = int let v: int = v type M = A let w: int = x"), 1, api.ErrLoop)
	checkError(t, "the first declaration", scope.Resolve, parsed(head+"type N[=A] = A[int] let v: int = v"), 0, api.ErrArity)
	checkError(t, "the first declaration", scope.Resolve, parsed(head+"use a::f as f use c::g as g let v: int = v"), 1, api.ErrNotFound)
}

// P10.1: trees without their form, and those that have not the form of a source.
func TestForms(t *testing.T) {
	good := parsed(head + "type N = {x: a::N} let v: int = fn(x: a::N) => (a::v[a::N] : a::N) let w[X <: a::N]: a::N = 1 use a::f as f")
	if _, index, err := scope.Resolve(good); index != 0 || err != api.OK {
		t.Fatalf("the error is %d at %d", err, index)
	}
	label := func(m *api.Module) *api.Expr { return &m.Decls[1].Expr }
	for i, x := range []struct {
		change func(m *api.Module)
		index  int
		err    api.Errno
	}{
		{func(m *api.Module) { m.Path = "m" }, -1, api.ErrName}, {func(m *api.Module) { m.Imports[1].Path = "a/v1" }, -1, api.ErrExists}, {func(m *api.Module) { m.Imports[1].Alias = "a" }, -1, api.ErrExists}, {func(m *api.Module) { m.Imports[0].Path = "m/v1" }, -1, api.ErrLoop}, {func(m *api.Module) { m.Decls[2].Name = "V" }, 2, api.ErrName}, {func(m *api.Module) { m.Decls[3].Name = "v" }, 3, api.ErrExists}, {func(m *api.Module) { m.Decls[1].Kind = 3 }, 1, api.ErrArg}, {func(m *api.Module) { label(m).Kids = nil }, 1, api.ErrArg}, {func(m *api.Module) { m.Decls[0].Type = api.Type{Kind: api.TypeVar, Name: "x"} }, 0, api.ErrName},
		{func(m *api.Module) { m.Decls[0].Type = api.Type{Kind: api.TypeVar, Name: "N"} }, 0, api.ErrArg}, {func(m *api.Module) { m.Decls[0].Lower = api.Type{Kind: api.TypeVar, Name: "#0"} }, 0, api.ErrArg}, {func(m *api.Module) { m.Decls[0].Upper.Fields[0].Type.Module = "a/v1" }, 0, api.ErrArg}, {func(m *api.Module) { m.Decls[1].Type = api.Type{Kind: api.TypeRef, Module: "m/v1", Name: "N"} }, 1, api.ErrArg},
		{func(m *api.Module) { label(m).Labels[0].Type.Module = "a/v1" }, 1, api.ErrArg}, {func(m *api.Module) { label(m).Kids[0].Types[0] = api.Type{Kind: api.TypeVar, Name: "X"} }, 1, api.ErrArg}, {func(m *api.Module) { label(m).Kids[0].Kids[0].Module = "a/v1" }, 1, api.ErrArg}, {func(m *api.Module) { label(m).Kids[0].Kids[0].Module = "m/v1" }, 1, api.ErrArg}, {func(m *api.Module) { label(m).Kids[0].Kids[0].Types[0].Module = "z/v9" }, 1, api.ErrArg}, {func(m *api.Module) { *label(m) = api.Expr{Kind: api.ExprValue, Name: "v"} }, 1, api.ErrArg},
		{func(m *api.Module) { m.Decls[2].Params[0].Bound = api.Type{Kind: api.TypeVar, Name: "X"} }, 2, api.ErrArg}, {func(m *api.Module) { m.Decls[2].Type.Module = "a/v1" }, 2, api.ErrArg}, {func(m *api.Module) { m.Decls[3].Module = "a/v1" }, 3, api.ErrArg},
		// The form of all declarations comes in front of the names of the first one, and the form of trees in front of that of sources.
		{func(m *api.Module) { m.Decls[0].Type.Fields[0].Type.Module = "c"; m.Decls[3].Module = "a/v1" }, 3, api.ErrArg}, {func(m *api.Module) { m.Decls[0].Type.Fields[0].Type.Module = "a/v1"; m.Decls[3].Module = "A" }, 3, api.ErrName}, {func(m *api.Module) {
			m.Decls[2].Type.Module = "a/v1"
			m.Decls[1].Type = api.Type{Kind: api.TypeVar, Name: "X"}
		}, 1, api.ErrArg}, {func(m *api.Module) { m.Decls[0].Type.Module, m.Path = "a/v1", "" }, -1, api.ErrName},
		{func(m *api.Module) { m.Decls[0].Type.Fields[0].Type.Module = "c" }, 0, api.ErrNotFound},
	} {
		m := duplicate(good)
		x.change(&m)
		checkError(t, "change "+strconv.Itoa(i), scope.Resolve, m, x.index, x.err)
	}
	if m, index, err := scope.Resolve(api.Module{Path: "m/v1"}); !same(m, api.Module{Path: "m/v1"}) || index != 0 || err != api.OK {
		t.Errorf("an empty module is resolved to %v", m)
	}
}

// checkLocalize checks the source to which a resolved tree (in its notation) is localized.
func checkLocalize(t *testing.T, source, want string) {
	t.Helper()
	got, index, err := scope.Localize(absolute(source))
	if err != api.OK || index != 0 || !same(got, parsed(want)) {
		text, _ := printer.Module(got)
		t.Errorf("%s is localized to %s with the error %d at %d", source, text, err, index)
	}
}

// P10.1: the aliases of paths, and names instead of variables and own values.
func TestLocalize(t *testing.T) {
	for source, want := range map[string]string{
		"module m/v1":                  "module m/v1",
		"module m/v1 import a/v1 as x": "module m/v1 import a/v1 as m0",
		"module m/v1 import z/v1 as a import b/v1 as z import b/v10 as c import b/v2 as d": "module m/v1 import b/v1 as m0 import b/v10 as m1 import b/v2 as m2 import z/v1 as m3",
		"module m/v1 type N = a_v1::N":                                             "module m/v1 import a/v1 as m0 type N = m0::N",
		"module m/v1 import b/v1 as b type N = a_v1::N":                            "module m/v1 import a/v1 as m0 import b/v1 as m1 type N = m0::N",
		"module m/v1 import a/v1 as b type N = a_v1::N[b_v1::M, m_v1::N]":          "module m/v1 import a/v1 as m0 import b/v1 as m1 type N = m0::N[m1::M, N]",
		"module m/v1 type N[=A] >: c_v1::L[V_A] <: b_v1::U = {a: V_A, b: a_v1::N}": "module m/v1 import a/v1 as m0 import b/v1 as m1 import c/v1 as m2 type N[=A] >: m2::L[A] <: m1::U = {a: A, b: m0::N}",
		"module m/v1 export use z_v1::f as f use a_v1::F as F":                     "module m/v1 import a/v1 as m0 import z/v1 as m1 export use m1::f as f use m0::F as F",
		"module m/v1 let v[X <: e_v1::N, Y <: V_X]: d_v1::N[V_X, V_Y] = fn(x: c_v1::N[V_X]) => (b_v1::v[a_v1::N, V_Y] : m_v1::N[V_X]) type N[=A] = int": "module m/v1 import a/v1 as m0 import b/v1 as m1 import c/v1 as m2 import d/v1 as m3 import e/v1 as m4 let v[X <: m4::N, Y <: X]: m3::N[X, Y] = fn(x: m2::N[X]) => (m1::v[m0::N, Y] : N[X]) type N[=A] = int",
		"module m/v1 let v: int = 1 let w: int = m_v1::v + (let x = m_v1::v in x) + m_v1::v[int] + a_v1::v":                                             "module m/v1 import a/v1 as m0 let v: int = 1 let w: int = v + (let x = v in x) + v[int] + m0::v",
		"module m/v1 use a_v1::f as g let w: int = match[int] m_v1::g {c x => x(y: m_v1::g), d y => fold[b_v1::N] g, x in y from m_v1::g => g}":         "module m/v1 import a/v1 as m0 import b/v1 as m1 use m0::f as g let w: int = match[int] g {c x => x(y: g), d y => fold[m1::N] g, x in y from g => g}",
		"module m/v1 type A = int let v[X <: m_v1::A]: m_v1::A = [V_X| {a: 1}.a]":                                                                       "module m/v1 type A = int let v[X <: A]: A = [X| {a: 1}.a]",
		"module m/v1 export deprecated \"x\" type N = m_v1::M type M = m_v1::N":                                                                         "module m/v1 export deprecated \"x\" type N = M type M = N",
	} {
		checkLocalize(t, source, want)
	}
}

// P10.1: what cannot be localized, and the order of the errors.
func TestLocalizeErrors(t *testing.T) {
	const many = "module m/v1 import i0/v1 as a import i1/v1 as b import i2/v1 as c import i3/v1 as d import i4/v1 as e import i5/v1 as f import i6/v1 as g import i7/v1 as h import i8/v1 as i import i9/v1 as j import j0/v1 as k import j1/v1 as l import j2/v1 as m import j3/v1 as n import j4/v1 as o "
	for source, want := range map[string]struct {
		index int
		err   api.Errno
	}{
		"module m/v1 type M = int type N = N": {1, api.ErrArg}, "module m/v1 type M = int type N >: int <: N = int": {1, api.ErrArg}, "module m/v1 import a/v1 as a type N = list[a::N]": {0, api.ErrArg}, "module m/v1 let v: N = 1": {0, api.ErrArg}, "module m/v1 let v[X <: N]: int = 1": {0, api.ErrArg}, "module m/v1 let v: int = v[int]": {0, api.ErrArg}, "module m/v1 let v: int = 1 let w: int = (x::v : int)": {1, api.ErrArg}, "module m/v1 let v: int = a_v1::f[N]": {0, api.ErrArg}, "module m/v1 let v: int = fn(x: N) => 1": {0, api.ErrArg}, "module m/v1 use a::f as f": {0, api.ErrArg}, "module m/v1 type N = int use m_v1::f as f": {1, api.ErrArg}, "module m/v1 use m_v1::F as F": {0, api.ErrArg},
		many + "type N = z_v1::N": {0, api.OK}, many + "type N = z_v1::N type M = m_v1::N use z_v1::f as f let v: z_v1::N = z_v1::v type O = i7_v1::N": {0, api.OK}, many + "type N = z_v1::N[y_v1::N]": {-1, api.ErrTooLarge}, many + "type N = z_v1::N use y_v1::f as f": {-1, api.ErrTooLarge}, many + "type N = z_v1::N let v: int = y_v1::f": {-1, api.ErrTooLarge}, many + "type N = z_v1::N let v[X <: y_v1::M]: int = 1": {-1, api.ErrTooLarge}, many + "type N >: z_v1::N <: y_v1::N = int": {-1, api.ErrTooLarge},
		"module m/v1 type N = V_0": {0, api.ErrName}, "module m/v1 type N = int type M = a_v1::N[V_0]": {1, api.ErrName}, "module m/v1 type N = int let v[X <: list[V_0]]: int = 1": {1, api.ErrName}, "module m/v1 let v: V_0 = 1": {0, api.ErrName}, "module m/v1 let v: int = (1 : V_0)": {0, api.ErrName}, "module m/v1 let v: int = fn(x: {a: V_0}) => 1": {0, api.ErrName}, "module m/v1 type N >: V_0 <: any = int": {0, api.ErrName},
		"module m/v1 type N = V_A": {0, api.ErrExists}, "module m/v1 type N[=A] = V_B": {0, api.ErrExists}, "module m/v1 type N[=A] = V_A type M = V_A": {1, api.ErrExists}, "module m/v1 type A = int type N = V_A": {1, api.ErrExists}, "module m/v1 type A = int type N[=A] = m_v1::A": {1, api.ErrExists}, "module m/v1 type A[=X] = int type N[=A] = m_v1::A[int]": {1, api.ErrExists}, "module m/v1 type N = m_v1::M": {0, api.ErrExists}, "module m/v1 let v[X <: V_X]: int = 1": {0, api.ErrExists}, "module m/v1 let v[X <: V_Y, Y]: int = 1": {0, api.ErrExists}, "module m/v1 type X = int let v[X <: V_X]: int = 1": {1, api.ErrExists}, "module m/v1 type X = int let v[X <: m_v1::X]: m_v1::X = 1": {1, api.ErrExists}, "module m/v1 type X = int let v[X <: m_v1::X]: V_X = 1": {0, api.OK},
		"module m/v1 let v: int = x": {0, api.ErrExists}, "module m/v1 let x: int = 1 let v: int = x": {1, api.ErrExists}, "module m/v1 let v: int = v": {0, api.ErrExists}, "module m/v1 let v: int = m_v1::x": {0, api.ErrExists}, "module m/v1 let v: int = m_v1::v": {0, api.ErrExists}, "module m/v1 let v: int = m_v1::w let w: int = 1": {0, api.ErrExists}, "module m/v1 let v: int = 1 let w: int = let v = 1 in m_v1::v": {1, api.ErrExists}, "module m/v1 let v: int = 1 let w: int = let v = m_v1::v in v": {0, api.OK}, "module m/v1 let v: int = 1 let w: int = fn(v: int) => m_v1::v[int]": {1, api.ErrExists}, "module m/v1 let v: int = 1 let w: int = fold[int] v, w in m_v1::v from m_v1::v => m_v1::v": {1, api.ErrExists}, "module m/v1 let v: int = 1 let w: int = fn(x: int) => fn(x: int = m_v1::v) => a_v1::v + x": {0, api.OK}, "module m/v1 let v: int = 1 let w: int = (let x = 1 in x) + x": {1, api.ErrExists},
		// The errors of all declarations stand in front of those that come later in the table.
		"module m/v1 type M = V_0 type N = N": {1, api.ErrArg}, "module m/v1 type M = V_A type N = N": {1, api.ErrArg}, many + "type N = z_v1::N[y_v1::M, z::N]": {0, api.ErrArg}, many + "type N = z_v1::N[y_v1::M, V_0]": {-1, api.ErrTooLarge}, many + "type N = z_v1::N[y_v1::M, V_A]": {-1, api.ErrTooLarge}, "module m/v1 type M = V_A type N = V_0": {1, api.ErrName}, "module m/v1 type L = int type M = V_A type N = m_v1::K": {1, api.ErrExists}, "module m/v1 type L = int type M = V_0 type N = V_0": {1, api.ErrName},
	} {
		m := absolute(source)
		if want.err != api.OK {
			checkError(t, source, scope.Localize, m, want.index, want.err)
		} else if _, index, err := scope.Localize(m); index != 0 || err != api.OK {
			t.Errorf("%s has the error %d at %d", source, err, index)
		}
	}
	full := absolute(many[:len("module m/v1 ")] + "type N = z_v1::N")
	for k := range api.MaxImports {
		full.Imports = append(full.Imports, api.Import{Path: "p" + strconv.Itoa(k) + "/v1", Alias: "p" + strconv.Itoa(k)})
	}
	checkError(t, "17 paths", scope.Localize, full, -1, api.ErrTooLarge)
	for i, change := range []func(m *api.Module){
		func(m *api.Module) { m.Path = "m" }, func(m *api.Module) { m.Imports[0].Alias = "A" }, func(m *api.Module) { m.Decls[0].Kind = 7 }, func(m *api.Module) { m.Decls[0].Type.Name = "n" },
	} {
		m := duplicate(full)
		change(&m)
		index, err := syntax.CheckModule(m)
		if err == api.OK {
			t.Fatalf("change %d has no error", i)
		}
		checkError(t, "a form of a module", scope.Localize, m, index, err)
	}
}

// P10.1: random modules, resolved as the chapter says it.
func TestRandomResolve(t *testing.T) {
	r := rand.New(rand.NewSource(1))
	count := map[api.Errno]int{}
	for k := range 6000 {
		m := unresolved{r, []int{0, 15, 150}[k%3]}.module()
		if _, err := printer.Module(m); err != api.OK && err != api.ErrTooLarge {
			t.Fatalf("%v has the error %d", m, err)
		}
		want, index, wantErr := naive(m)
		got, gotIndex, err := scope.Resolve(m)
		if gotIndex != index || err != wantErr || !same(got, want) {
			t.Fatalf("%v has the error %d at %d, not %d at %d, and is %v, not %v", m, err, gotIndex, wantErr, index, got, want)
		}
		count[err]++
	}
	if count[api.OK] < 2000 || count[api.ErrNotFound] < 500 || count[api.ErrArity] < 20 || count[api.ErrLoop] < 30 {
		t.Errorf("the errors are %v", count)
	}
}

// P10.2: what is localized is resolved to the same declarations, and aliases do not matter.
func TestConsequences(t *testing.T) {
	r := rand.New(rand.NewSource(2))
	count := 0
	for range 3000 {
		m := unresolved{r, 0}.module()
		resolved, _, err := scope.Resolve(m)
		if err != api.OK {
			t.Fatalf("%v has the error %d", m, err)
		}
		local, index, err := scope.Localize(resolved)
		if err != api.OK || index != 0 {
			t.Fatalf("%v cannot be localized: %d at %d", resolved, err, index)
		}
		if _, err := printer.Module(local); err != api.OK && err != api.ErrTooLarge {
			t.Fatalf("%v has not the form of a source: %d", local, err)
		}
		back, _, err := scope.Resolve(local)
		if err != api.OK || !same(back.Decls, resolved.Decls) {
			t.Fatalf("%v is localized to %v, which is resolved to %v", resolved, local, back)
		}
		other := renamed(m)
		if again, _, err := scope.Resolve(other); err != api.OK || !same(again.Decls, resolved.Decls) || !same(again.Imports, other.Imports) {
			t.Fatalf("with other aliases, %v is resolved to %v", m, again)
		}
		count += len(m.Decls)
	}
	if count < 3000 {
		t.Errorf("only %d declarations", count)
	}
}

// renamed returns a module with other aliases for its imports.
func renamed(m api.Module) api.Module {
	other := func(alias string) string {
		if alias == "" {
			return ""
		}
		return strings.Repeat("x", len(alias)) + alias
	}
	m = renaming{
		func(d *api.Decl) { d.Module = other(d.Module) }, func(t *api.Type) { t.Module = other(t.Module) }, func(e *api.Expr) { e.Module = other(e.Module) },
	}.apply(m)
	for i := range m.Imports {
		m.Imports[i].Alias = other(m.Imports[i].Alias)
	}
	return m
}

// P10.1, P10.2: random trees that are resolved already, whose names often lose their meaning.
func TestRandomLocalize(t *testing.T) {
	r := rand.New(rand.NewSource(3))
	count := map[api.Errno]int{}
	for range 3000 {
		m, _, err := scope.Resolve(unresolved{r, 0}.module())
		if err != api.OK {
			t.Fatalf("a module has the error %d", err)
		}
		m = confused(r, m)
		local, index, err := scope.Localize(m)
		count[err]++
		switch back, at, naiveErr := naive(local); {
		case err != api.OK && (index < 0 || index >= len(m.Decls) || !same(local, api.Module{})):
			t.Fatalf("%v has the error %d at %d", m, err, index)
		case err == api.OK && (naiveErr != api.OK || !same(back.Decls, m.Decls)):
			t.Fatalf("%v is localized to %v, which has the error %d at %d, or is resolved to %v", m, local, naiveErr, at, back)
		case err == api.ErrExists:
			if index != firstChanged(m) {
				t.Fatalf("the first declaration of %v that does not keep its meaning is %d, not %d", m, firstChanged(m), index)
			}
		case err != api.OK:
			t.Fatalf("%v has the error %d", m, err)
		}
	}
	if count[api.OK] < 500 || count[api.ErrExists] < 500 {
		t.Errorf("the errors are %v", count)
	}
}

// confused returns a resolved tree with some names changed to others that exist.
func confused(r *rand.Rand, m api.Module) api.Module {
	if len(m.Decls) == 0 {
		return m
	}
	rarely := func() bool { return r.Intn(20) == 0 }
	return renaming{
		func(d *api.Decl) {},
		func(t *api.Type) {
			switch {
			case !rarely():
			case t.Kind == api.TypeVar:
				*t = api.Type{Kind: api.TypeRef, Module: m.Path, Name: t.Name}
			case t.Kind == api.TypeRef && len(t.Args) == 0:
				*t = api.Type{Kind: api.TypeVar, Name: t.Name}
			case t.Kind == api.TypeRef:
				t.Module, t.Name = m.Path, "P0"
			}
		},
		func(e *api.Expr) {
			switch {
			case !rarely():
			case e.Kind == api.ExprLocal:
				*e = api.Expr{Kind: api.ExprValue, Module: m.Path, Name: e.Name}
			case e.Kind == api.ExprValue && len(e.Types) == 0:
				*e = api.Expr{Kind: api.ExprLocal, Name: e.Name}
			case e.Kind == api.ExprValue:
				e.Module, e.Name = m.Path, m.Decls[r.Intn(len(m.Decls))].Name
				if e.Name[0] < 'a' {
					e.Name = "a"
				}
			}
		},
	}.apply(m)
}

// firstChanged returns the index of the first declaration of a tree whose names change their meaning if variables, and what belongs to the module itself, are known by their names alone.
func firstChanged(m api.Module) int {
	local := renaming{
		func(d *api.Decl) {},
		func(t *api.Type) {
			if t.Kind == api.TypeVar || t.Module == m.Path {
				t.Kind, t.Module = min(t.Kind+1, api.TypeRef), ""
			}
		},
		func(e *api.Expr) {
			if e.Module == m.Path && len(e.Types) == 0 {
				e.Kind, e.Module = api.ExprLocal, ""
			} else if e.Module == m.Path {
				e.Module = ""
			}
		},
	}.apply(m)
	// Here each path is its own alias.
	local.Imports = nil
	for _, path := range everyPath(m) {
		local.Imports = append(local.Imports, api.Import{Path: path, Alias: path})
	}
	for i := range local.Decls {
		n := names{m: local, index: i}
		if d, err := n.decl(local.Decls[i]); err != api.OK || !same(d, m.Decls[i]) {
			return i
		}
	}
	return -1
}

// everyPath returns all modules in a tree.
func everyPath(m api.Module) []string {
	var paths []string
	renaming{
		func(d *api.Decl) { paths = append(paths, d.Module) }, func(t *api.Type) { paths = append(paths, t.Module) }, func(e *api.Expr) { paths = append(paths, e.Module) },
	}.apply(m)
	return paths
}

// P10.1: sources that were printed are resolved like the trees.
func TestPrinted(t *testing.T) {
	m := parsed(head + "export type N[+A] <: {x: A} = {x: A, y: a::T} export let v[X]: N[X] = b::make[X] let w: int = let v = 2 in v * v")
	local, _, err := scope.Localize(absolute(head + "export type N[+A] <: {x: V_A} = {x: V_A, y: a_v1::T} export let v[X]: m_v1::N[V_X] = b_c_v2::make[V_X] let w: int = let v = 2 in v * v"))
	source, printErr := printer.Module(local)
	again, _, parseErr := parser.Module(source)
	if err != api.OK || printErr != api.OK || parseErr != api.OK || !same(again, local) {
		t.Fatalf("the errors are %d, %d and %d", err, printErr, parseErr)
	}
	first, _, _ := scope.Resolve(m)
	second, _, _ := scope.Resolve(again)
	if !same(first.Decls, second.Decls) || len(first.Decls) != 3 {
		t.Errorf("%v is not %v", first, second)
	}
}

// everything returns the results of both functions.
func everything(m api.Module) []any {
	resolved, index, err := scope.Resolve(m)
	local, at, other := scope.Localize(m)
	again, where, third := scope.Localize(resolved)
	return []any{resolved, index, err, local, at, other, again, where, third}
}

// P1, P2, P3: functions end for all trees, in several goroutines, with the same results, which are new memory, and leave their arguments as they are.
func TestSharedUse(t *testing.T) {
	r := rand.New(rand.NewSource(4))
	trees := []api.Module{{}, parsed(head + "type N = a::N"), absolute(head + "type N = a_v1::N[m_v1::N] let v[X <: a_v1::N]: int = fn(x: list[V_X]) => {a: x, b: a_v1::f[V_X]}")}
	for range 150 {
		trees = append(trees, random[api.Module](r, 6), unresolved{r, 5}.module(), sample.Choice(r.Intn).Module(3))
	}
	for _, m := range trees {
		before := duplicate(m)
		want := everything(m)
		var group sync.WaitGroup
		for range 4 {
			group.Go(func() {
				if !reflect.DeepEqual(everything(m), want) {
					t.Error("another result in a goroutine")
				}
			})
		}
		group.Wait()
		if !same(m, before) {
			t.Fatal("an argument has changed")
		}
		for _, result := range []any{want[0], want[3]} {
			checkNew(t, "a result", m, result)
		}
		checkNew(t, "a localized tree", want[0], want[6])
	}
}
