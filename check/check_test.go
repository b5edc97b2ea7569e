package check_test

import (
	"math/rand"
	"reflect"
	"slices"
	"sync"
	"testing"

	"modcert/api"
	"modcert/check"
	"modcert/subtype"
	"modcert/syntax"
	"modcert/wellformed"
)

// lib has types with and without bounds, recursive types, and values with and without variables, some of them behind facades.
func lib() api.Env {
	return environment(
		`module a/v1
		export type Box[=X] <: {get: X, set: fn(v: X) {}} = {get: X, set: fn(v: X) {}}
		export type Closed <: any = int
		export type Fn <: fn(a: int, b?: text) bool = fn(a: int, b?: text) bool
		export type List[+X] = <cons: {head: X, tail: List[X]} | nil: {}>
		export type Never <: none = none
		export type Open >: int <: any = int
		export type Point = {x: int, y: int}
		export type Row[+X] <: list[X] = list[X]
		export type Some[+X] >: {v: X} <: any = {v: X}
		export type Three <: <a: int | b: text | c: {}> = <a: int | b: text | c: {}>
		export let closed: Closed = 1
		export let fn1: Fn = fn(a: int, b: text = "") => true
		export let id[X]: fn(x: X) X = fn(x: X) => x
		export let n: int = 1
		export let open: Open = 1
		export let pair[X <: {x: int}, Y <: X]: fn(x: X, y: Y) {x: X, y: Y} = fn(x: X, y: Y) => {x: x, y: y}
		export let swap[X, Y <: Row[X]]: {x: list[Y], y: X} = 1`,
		`module b/v1
		import a/v1 as a
		export use a::Point as P
		export use a::id as same
		export use a::n as n
		export use a::pair as pair
		export let origin: P = {x: 0, y: 0}`,
	)
}

const (
	someContext = "X <: {x: int}, Y <: X, Z <: none, A <: any, B <: a::Fn, W <: a::Three"
	someLocals  = "i: int; t: text; b: bool; r: {a: int, b: {c: text}}; l: list[int]; v: <a: int | b: text>; f: fn(a: int, b?: text) bool; n: none; x: X; y: Y; z: Z; w: W; fb: B; u: A; any0: any; p: a::Point; q: b::P; row: a::Row[int]; never: a::Never; closed: a::Closed; list0: a::List[text]; box: a::Box[int]; empty: <>"
)

// checkTypes checks the types of expressions: each has the form expression : type, and the type is separated by the last " : ".
func checkTypes(t *testing.T, pairs ...[2]string) {
	t.Helper()
	env, c, l := lib(), context(someContext), locals(someLocals)
	for _, pair := range pairs {
		e, want := expression(pair[0]), typed(pair[1])
		got, err := check.Type(env, c, l, e)
		if err != api.OK || !same(got, want) {
			t.Errorf("%s has the type %v, error %d; want %s", pair[0], got, err, pair[1])
		}
		if other, err := naive(env, c, l, e); err != api.OK || !same(other, want) {
			t.Errorf("%s is expected to have the type %s", pair[0], pair[1])
		}
		if err := check.Against(env, c, l, e, want); err != api.OK {
			t.Errorf("%s is not against its type: %d", pair[0], err)
		}
	}
}

// checkErrors checks the errors of expressions.
func checkErrors(t *testing.T, want api.Errno, sources ...string) {
	t.Helper()
	env, c, l := lib(), context(someContext), locals(someLocals)
	for _, source := range sources {
		e := expression(source)
		if got, err := check.Type(env, c, l, e); err != want || !same(got, api.Type{}) {
			t.Errorf("%s has the type %v, error %d; want %d", source, got, err, want)
		}
		if _, err := naive(env, c, l, e); err != want {
			t.Errorf("%s is expected to have the error %d", source, err)
		}
		if err := check.Against(env, c, l, e, anything); err != want {
			t.Errorf("against any: %s has the error %d; want %d", source, err, want)
		}
	}
}

// P11.1: literals and local variables.
func TestLeaves(t *testing.T) {
	checkTypes(t, [][2]string{
		{"0", "int"}, {"-7", "int"}, {`""`, "text"}, {`"ab"`, "text"}, {"true", "bool"}, {"false", "bool"},
		{"i", "int"}, {"t", "text"}, {"r", "{a: int, b: {c: text}}"}, {"x", "X"}, {"u", "A"}, {"any0", "any"}, {"n", "none"}, {"p", "a::Point"}, {"q", "b::P"}, {"closed", "a::Closed"}, {"f", "fn(a: int, b?: text) bool"},
	}...)
	checkErrors(t, api.ErrNotFound, "missing", "i + missing", "let k = 1 in missing")
	twice := []api.Field{{Name: "x", Type: integer}, {Name: "y", Type: text}, {Name: "x", Type: boolean}}
	if got, err := check.Type(nil, nil, twice, local("x")); err != api.OK || !same(got, boolean) {
		t.Errorf("of two variables with one name, %v counts", got)
	}
	if _, err := check.Type(nil, nil, nil, local("x")); err != api.ErrNotFound {
		t.Errorf("without local variables: %d", err)
	}
}

// P11.1: values, with types in place of their variables.
func TestValues(t *testing.T) {
	checkTypes(t, [][2]string{
		{"a::n", "int"}, {"b::n", "int"}, {"a::closed", "a::Closed"}, {"b::origin", "b::P"}, {"a::fn1", "a::Fn"},
		{"a::id[int]", "fn(x: int) int"}, {"a::id[{a: X}]", "fn(x: {a: X}) {a: X}"}, {"b::same[a::List[Y]]", "fn(x: a::List[Y]) a::List[Y]"}, {"a::id[none]", "fn(x: none) none"},
		{"a::pair[{x: int}, {x: int}]", "fn(x: {x: int}, y: {x: int}) {x: {x: int}, y: {x: int}}"}, {"a::pair[{x: int}, {x: int, z: text}]", "fn(x: {x: int}, y: {x: int, z: text}) {x: {x: int}, y: {x: int, z: text}}"}, {"a::pair[X, Y]", "fn(x: X, y: Y) {x: X, y: Y}"}, {"b::pair[X, X]", "fn(x: X, y: X) {x: X, y: X}"}, {"a::pair[a::Point, none]", "fn(x: a::Point, y: none) {x: a::Point, y: none}"},
		{"a::swap[int, a::Row[int]]", "{x: list[a::Row[int]], y: int}"}, {"a::swap[int, none]", "{x: list[none], y: int}"}, {"a::swap[A, a::Row[none]]", "{x: list[a::Row[none]], y: A}"},
	}...)
	checkErrors(t, api.ErrNotFound, "a::missing", "z::n", "a::missing[int]", "a::id[a::Missing]", "b::closed")
	checkErrors(t, api.ErrArity, "a::id", "b::same", "a::n[int]", "a::id[int, int]", "a::pair[int]", "a::pair", "a::pair[X, X, X]", "a::id[a::Row]", "a::id[a::Point[int]]")
	checkErrors(t, api.ErrName, "a::id[Q]", "a::id[list[Q]]", "a::pair[X, Q]")
	checkErrors(t, api.ErrBound, "a::pair[int, int]", "a::pair[{x: text}, none]", "a::pair[X, {x: int}]", "a::pair[Y, X]", "a::pair[A, none]", "a::pair[{x: int}, {}]", "b::pair[int, none]", "a::swap[int, a::Row[text]]", "a::swap[int, list[int]]", "a::swap[none, a::Row[int]]")
}

// P11.1: records, and what is projected from them.
func TestRecords(t *testing.T) {
	checkTypes(t, [][2]string{
		{"{}", "{}"}, {"{a: 1}", "{a: int}"}, {"{b: x, a: {c: true}}", "{a: {c: bool}, b: X}"}, {"{n: n}", "{n: none}"},
		{"r.a", "int"}, {"r.b", "{c: text}"}, {"r.b.c", "text"}, {"{a: 1, b: true}.b", "bool"}, {"p.x", "int"}, {"q.y", "int"}, {"x.x", "int"}, {"y.x", "int"}, {"n.a", "none"}, {"n.a.b", "none"}, {"z.a", "none"}, {"never.x", "none"}, {"box.get", "int"}, {"box.set", "fn(v: int) {}"}, {"b::origin.x", "int"}, {"(r: {b: {}}).b", "{}"},
	}...)
	checkErrors(t, api.ErrType, "r.c", "r.b.a", "{}.a", "i.a", "t.a", "v.a", "f.a", "l.a", "closed.a", "a::open.a", "any0.a", "u.a", "p.z", "x.y", "list0.cons", "fb.a", "(r: {}).a", "{a: r.c, b: missing}")
	checkErrors(t, api.ErrNotFound, "missing.a", "{a: missing, b: r.c}", "{a: 1, b: missing}")
}

// P11.1: injections, and matches on them.
func TestVariants(t *testing.T) {
	checkTypes(t, [][2]string{
		{"<c: 1>", "<c: int>"}, {"<a: <b: x>>", "<a: <b: X>>"}, {"<a: n>", "<a: none>"},
		{"match[int] v {a x => x, b y => length y}", "int"}, {"match[any] v {a x => x, b y => y}", "any"}, {"match[text] v {a t => \"\", b t => t, c t => t}", "text"}, {"match[int] v {a x => i, b i => 1, zz x => x.q.r}", "int"},
		{"match[int] <a: 1> {a x => x}", "int"}, {"match[A] n {a x => x, b y => y.a}", "A"}, {"match[{}] n {}", "{}"}, {"match[none] empty {}", "none"}, {"match[int] empty {a x => x}", "int"}, {"match[int] never {q x => x}", "int"}, {"match[int] z {q x => x + 1}", "int"},
		{"match[a::Closed] w {a x => closed, b x => closed, c x => n}", "a::Closed"}, {"match[any] w {a x => x + 1, b x => x ++ t, c x => x}", "any"}, {"match[text] list0 {cons c => c.head, nil e => \"\"}", "text"}, {"match[a::List[any]] list0 {cons c => c.tail, nil e => <nil: e>}", "a::List[any]"}, {"match[X] v {a k => y, b k => x}", "X"},
	}...)
	checkErrors(t, api.ErrName, "match[Q] missing {}", "match[list[Q]] v {}")
	checkErrors(t, api.ErrNotFound, "<a: missing>", "match[int] missing {}", "match[a::Missing] missing {}", "match[int] v {a x => missing, b y => y}", "match[int] v {a x => x, b y => missing}", "match[int] n {a x => missing}", "match[int] v {a k => 1, b y => k}")
	checkErrors(t, api.ErrType, "<a: i.b>", "match[int] i {}", "match[int] r {a x => 1, b x => 2}", "match[int] closed {a x => missing}", "match[int] any0 {}", "match[int] u {}", "match[int] p {x x => x, y x => x}", "match[int] f {a x => missing}",
		"match[int] v {a x => x, b y => y}", "match[int] v {a x => t, b y => missing}", "match[text] v {a x => x, b y => y}", "match[int] v {a x => x, b y => 1, c z => t}", "match[X] v {a k => x, b k => p}", "match[none] n {a x => 1}")
	checkErrors(t, api.ErrArity, "match[int] v {}", "match[int] v {a x => x}", "match[int] v {a x => missing}", "match[int] v {b y => 1, c x => x}", "match[int] w {a x => 1, b x => 1}", "match[int] list0 {cons c => 1}", "match[int] <a: 1> {b x => 1}")
}

// P11.1: functions, and calls of them.
func TestFunctions(t *testing.T) {
	checkTypes(t, [][2]string{
		{"fn() => 1", "fn() int"}, {"fn(a: int) => a", "fn(a: int) int"}, {`fn(a: int, b: text = "") => a`, "fn(a: int, b?: text) int"}, {"fn(b: text = t, a: any = 1) => {a: a, b: b}", "fn(a?: any, b?: text) {a: any, b: text}"}, {"fn(x: Y) => x.x", "fn(x: Y) int"}, {"fn(i: text) => i", "fn(i: text) text"}, {"fn(i: text, k: int = i) => i", "fn(i: text, k?: int) text"}, {"fn(a: int) => fn(b: text) => {a: a, b: b}", "fn(a: int) fn(b: text) {a: int, b: text}"}, {"fn(a: X = y) => a", "fn(a?: X) X"}, {"fn(a: a::Open = 1) => a", "fn(a?: a::Open) a::Open"},
		{"f(a: 1)", "bool"}, {`f(a: 1, b: "")`, "bool"}, {"f(a: n)", "bool"}, {"fb(a: 1)", "bool"}, {"a::fn1(a: 1, b: t)", "bool"}, {"a::id[X](x: y)", "X"}, {"a::id[any](x: 1)", "any"}, {"a::pair[X, Y](x: x, y: y).y.x", "int"}, {"(fn() => 1)()", "int"}, {"(fn(a: int = 1) => a)()", "int"}, {"(fn(a: int = 1) => a)(a: 2)", "int"}, {"(fn(a: any, b: any = 1) => a)(a: {})", "any"}, {"n()", "none"}, {"n(a: 1, b: t)", "none"}, {"z(q: n)", "none"}, {"never(a: 1)", "none"}, {"n(a: 1)(b: 2).c", "none"},
	}...)
	checkErrors(t, api.ErrName, "fn(a: Q) => missing", "fn(a: Q = missing) => 1", "fn(a: int = missing, b: Q) => 1")
	checkErrors(t, api.ErrNotFound, "fn(a: int) => missing", "fn(a: int = missing) => 1", "fn(a: int, k: int = a) => a", "fn(a: int = missing, b: int = t) => 1", "fn(a: a::Missing, b: Q) => 1", "missing()", "missing(a: 1)", "f(a: missing)", "f(a: missing, b: 1)", "n(a: missing)", "n(a: 1, b: missing)", "(fn(a: int) => 1)(a: missing)")
	checkErrors(t, api.ErrType, "fn(a: int = t) => missing", "fn(a: text = 1, b: int = missing) => 1", "fn(a: int = 1, b: int = t) => 1", "fn(a: X = p) => 1", "fn(a: int) => a.b", "fn(i: text) => i + 1", "fn(i: text, k: int = i + 1) => k + i",
		"i()", "r(a: missing)", "v()", "l()", "closed()", "any0()", "u()", "x()", "p()", "f(a: t)", "f(a: 1, b: 1)", "f(a: t, b: missing)", "f(a: any0)", "fb(a: u)", "a::id[X](x: p)", "n(a: i.b)", "(fn(a: X) => 1)(a: u)")
	checkErrors(t, api.ErrArity, "f()", `f(b: "")`, "f(c: 1)", "f(a: 1, c: 1)", "f(a: missing, c: 1)", "f(b: missing)", "fb()", "fb(a: 1, q: 1)", "a::fn1(b: t)", "a::id[int]()", "a::id[int](y: 1)", "(fn() => 1)(a: 1)", "(fn(a: int = 1) => a)(b: 1)", "a::pair[X, Y](x: x)")
}

// P11.1: let, ascriptions and choices.
func TestAnnotations(t *testing.T) {
	checkTypes(t, [][2]string{
		{"let k = 1 in k", "int"}, {"let k = 1 in t", "text"}, {"let i = t in i", "text"}, {"let i = {a: i} in i.a", "int"}, {"let k = x in k.x", "int"}, {"let k = {a: 1, b: t} in let k = k.b in k", "text"}, {"{a: let i = t in i, b: i}", "{a: text, b: int}"},
		{"(1: any)", "any"}, {"(1: int)", "int"}, {"(1: a::Open)", "a::Open"}, {"(y: X)", "X"}, {"({a: 1, b: t}: {a: any})", "{a: any}"}, {"(n: A)", "A"}, {"(p: b::P)", "b::P"}, {"({v: 1}: a::Some[any])", "a::Some[any]"}, {"(fn() => 1: fn() any)", "fn() any"},
		{"if[int] b then 1 else 2", "int"}, {"if[any] true then 1 else t", "any"}, {"if[X] n then x else y", "X"}, {"if[{x: int}] b then p else {x: 1}", "{x: int}"}, {"if[a::Open] b then 1 else a::open", "a::Open"},
	}...)
	checkErrors(t, api.ErrName, "(missing: Q)", "if[Q] missing then 1 else 2")
	checkErrors(t, api.ErrNotFound, "let k = missing in 1", "let k = missing in k.a", "let k = 1 in missing", "let k = k in 1", "{a: let k = 1 in k, b: k}", "(missing: int)", "(missing: a::Missing)", "if[int] missing then t else 2", "if[int] b then missing else t", "if[int] b then 1 else missing")
	checkErrors(t, api.ErrType, "let k = i.a in missing", "let k = 1 in k.a", "let i = t in i + 1", "(t: int)", "(1: X)", "(any0: int)", "(p: X)", "(closed: int)", "(1: a::Closed)", "({a: 1}: {a: int, b: int})", "({v: 1}: a::Some[text])", "if[int] 1 then missing else 2", "if[int] any0 then 1 else 2", "if[int] b then t else missing", "if[int] b then 1 else t", "if[X] b then x else p", "if[int] b then 1 else any0")
	checkErrors(t, api.ErrArity, "(missing: a::Row)", "if[a::Point[int]] missing then 1 else 2")
}

// P11.1: lists and folds.
func TestLists(t *testing.T) {
	checkTypes(t, [][2]string{
		{"[int|]", "list[int]"}, {"[int|1, 2]", "list[int]"}, {"[any|1, t]", "list[any]"}, {"[X|x, y, n]", "list[X]"}, {"[list[any]|[int|1], l]", "list[list[any]]"},
		{"fold[int] e, s in l from 0 => e + s", "int"}, {"fold[text] e, s in l from t => s", "text"}, {"fold[any] e, s in l from 0 => t", "any"}, {"fold[int] e, s in row from 0 => e * s", "int"}, {"fold[int] e, s in n from 0 => e.q(a: s)", "int"}, {"fold[{}] e, s in never from {} => e", "{}"}, {"fold[int] i, t in [text|] from 0 => length i + t", "int"}, {"fold[a::List[X]] e, s in [X|x] from <nil: {}> => <cons: {head: e, tail: s}>", "a::List[X]"}, {"fold[int] e, s in z from 1 => e", "int"},
	}...)
	checkErrors(t, api.ErrName, "[Q|missing]", "fold[Q] e, s in missing from 1 => 2")
	checkErrors(t, api.ErrNotFound, "[int|missing]", "[int|1, missing, t]", "[a::Missing|]", "fold[a::Missing] e, s in missing from 1 => 2", "fold[int] e, s in missing from t => t", "fold[int] e, s in l from missing => t", "fold[int] e, s in l from e => 1", "fold[int] e, s in l from s => 1", "fold[int] e, s in l from 1 => missing", "fold[int] e, s in n from 1 => missing", "(fold[int] e, s in l from 1 => 1) + e")
	checkErrors(t, api.ErrType, "[int|t, missing]", "[int|1, t]", "[none|1]", "[X|p]", "fold[int] e, s in i from missing => 1", "fold[int] e, s in r from 1 => 1", "fold[int] e, s in any0 from 1 => 1", "fold[int] e, s in closed from 1 => 1", "fold[int] e, s in u from 1 => 1", "fold[int] e, s in list0 from 1 => 1", "fold[int] e, s in l from t => missing", "fold[int] e, s in l from any0 => 1", "fold[int] e, s in l from 1 => t", "fold[text] e, s in l from t => e", "fold[text] e, s in [text|] from t => s + 1", "fold[none] e, s in l from n => e")
	checkErrors(t, api.ErrArity, "[a::Row|missing]", "fold[a::Row] e, s in missing from 1 => 2")
}

// P11.1: operators.
func TestOperators(t *testing.T) {
	operands := map[string]string{"int": "i", "text": "t", "bool": "b"}
	for name, signature := range map[string][2]string{
		"+": {"int", "int"}, "-": {"int", "int"}, "*": {"int", "int"}, "<": {"int", "bool"}, "==": {"int", "bool"}, "++": {"text", "text"}, "===": {"text", "bool"}, "and": {"bool", "bool"}, "or": {"bool", "bool"},
	} {
		right := operands[signature[0]]
		checkTypes(t, [2]string{right + " " + name + " " + right, signature[1]}, [2]string{right + " " + name + " n", signature[1]}, [2]string{"z " + name + " " + right, signature[1]})
		for kind, wrong := range operands {
			if kind != signature[0] {
				checkErrors(t, api.ErrType, wrong+" "+name+" missing", right+" "+name+" "+wrong)
			}
		}
		checkErrors(t, api.ErrType, "r "+name+" missing", right+" "+name+" any0", "closed "+name+" "+right, "u "+name+" "+right)
		checkErrors(t, api.ErrNotFound, "missing "+name+" r", right+" "+name+" missing")
	}
	checkTypes(t, [][2]string{{"not b", "bool"}, {"not n", "bool"}, {"length t", "int"}, {"length n", "int"}, {"not i < 1", "bool"}, {"length t + 1 == i and true", "bool"}, {"{a: 1}.a + 1", "int"}}...)
	checkErrors(t, api.ErrType, "not i", "not t", "not any0", "length i", "length b", "length l", "length u")
	checkErrors(t, api.ErrNotFound, "not missing", "length missing")
}

// P11.1: the examples of the chapter.
func TestExamples(t *testing.T) {
	for _, x := range []struct {
		locals, e, want string
		err             api.Errno
	}{
		{"x: {a: int}", "x.a + 1", "int", api.OK},
		{"x: {a: int}", "x.b", "", api.ErrType},
		{"x: {a: int}", "<c: 1>", "<c: int>", api.OK},
		{"f: fn(a: int, b?: text) bool", "f(a: 1)", "bool", api.OK},
		{"f: fn(a: int, b?: text) bool", `f(b: "")`, "", api.ErrArity},
		{"x: int", `fn(a: int, b: text = "") => a`, "fn(a: int, b?: text) int", api.OK},
	} {
		got, err := check.Type(nil, nil, locals(x.locals), expression(x.e))
		if want := (api.Type{}); err != x.err || err != api.OK && !same(got, want) || err == api.OK && !same(got, typed(x.want)) {
			t.Errorf("%s has the type %v, error %d", x.e, got, err)
		}
	}
}

// P11.1: Against returns the error of the type, or ErrType.
func TestAgainst(t *testing.T) {
	env, c, l := lib(), context(someContext), locals(someLocals)
	for _, x := range []struct {
		e, t string
		want api.Errno
	}{
		{"1", "int", api.OK}, {"1", "any", api.OK}, {"1", "a::Open", api.OK}, {"y", "X", api.OK}, {"y", "{}", api.OK}, {"n", "X", api.OK}, {"p", "b::P", api.OK}, {"p", "{x: int}", api.OK}, {"{x: 1, y: 2}", "a::Point", api.OK}, {"<nil: {}>", "a::List[X]", api.OK}, {"fn(a: int = 1) => y", "fn() X", api.OK}, {"a::id[X]", "fn(x: Y) {x: int}", api.OK}, {"closed", "a::Closed", api.OK},
		{"1", "text", api.ErrType}, {"1", "none", api.ErrType}, {"any0", "int", api.ErrType}, {"p", "X", api.ErrType}, {"x", "Y", api.ErrType}, {"closed", "int", api.ErrType}, {"1", "a::Closed", api.ErrType}, {"{x: 1}", "a::Point", api.ErrType}, {"<nil: {}>", "<>", api.ErrType}, {"fn(a: int) => 1", "fn() int", api.ErrType},
		{"missing", "any", api.ErrNotFound}, {"missing", "none", api.ErrNotFound}, {"f()", "any", api.ErrArity}, {"f()", "text", api.ErrArity}, {"i.a", "any", api.ErrType}, {"a::pair[int, int]", "int", api.ErrBound}, {"(1: Q)", "int", api.ErrName}, {"a::id", "any", api.ErrArity},
	} {
		if err := check.Against(env, c, l, expression(x.e), typed(x.t)); err != x.want {
			t.Errorf("%s against %s: %d, want %d", x.e, x.t, err, x.want)
		}
	}
	if err := check.Against(nil, nil, nil, number(1), integer); err != api.OK {
		t.Errorf("without an environment: %d", err)
	}
	if !subtype.Is(env, c, typed("a::Point"), typed("b::P")) {
		t.Error("the facade is another type")
	}
}

// P11.1: variables of the context whose names are those of the variables of a value.
func TestNumberedVariables(t *testing.T) {
	env := lib()
	c := api.Context{{Name: "#0", Bound: typed("{x: int}")}, {Name: "#1", Bound: typed("{x: int}")}, {Name: "X", Bound: variable("#1")}}
	for _, x := range []struct {
		types []api.Type
		want  api.Type
		err   api.Errno
	}{
		{[]api.Type{variable("#0"), variable("#0")}, typed("fn(x: P0, y: P0) {x: P0, y: P0}"), api.OK},
		{[]api.Type{variable("#1"), nothing}, typed("fn(x: P1, y: none) {x: P1, y: none}"), api.OK},
		{[]api.Type{variable("#1"), variable("X")}, typed("fn(x: P1, y: X) {x: P1, y: X}"), api.OK},
		{[]api.Type{variable("#1"), variable("#0")}, api.Type{}, api.ErrBound},
		{[]api.Type{variable("#0"), variable("#1")}, api.Type{}, api.ErrBound},
		{[]api.Type{variable("X"), variable("#1")}, api.Type{}, api.ErrBound},
		{[]api.Type{variable("#0"), variable("#2")}, api.Type{}, api.ErrName},
	} {
		got, err := check.Type(env, c, nil, api.Expr{Kind: api.ExprValue, Module: "a/v1", Name: "pair", Types: x.types})
		if err != x.err || !same(got, x.want) {
			t.Errorf("with %v: %v, error %d", x.types, got, err)
		}
	}
}

// P11.1: of the errors of an expression, the first one counts.
func TestFirstError(t *testing.T) {
	checkErrors(t, api.ErrArity, "a::pair[Q]", "a::n[Q]", "a::id[int, Q]")
	checkErrors(t, api.ErrNotFound, "a::missing[Q, Q]", "a::pair[a::Missing, Q]", "a::pair[int, a::Missing]")
	checkErrors(t, api.ErrName, "a::pair[int, Q]", "a::pair[Q, a::Missing]", "[Q|missing, t]", "fold[Q] e, s in i from missing => missing", "match[Q] i {a x => missing}", "fn(a: int = t, b: Q = missing) => missing")
	checkErrors(t, api.ErrBound, "{a: a::pair[int, int], b: missing}", "a::pair[int, int] + missing", "let k = a::pair[int, int] in missing", "a::pair[text, text](x: missing)")
	checkErrors(t, api.ErrType, "{a: i.a, b: missing}", "i(a: missing)", "match[int] i {a x => missing}", "fold[int] e, s in i from missing => missing", "if[int] t then missing else missing", "i.a(b: missing)")
	deep := list(integer)
	for range api.MaxDepth {
		deep = list(deep)
	}
	for _, x := range []struct {
		e    api.Expr
		want api.Errno
	}{
		{api.Expr{Kind: api.ExprAscribe, Types: []api.Type{deep}, Kids: []api.Expr{local("missing")}}, api.ErrTooLarge},
		{api.Expr{Kind: api.ExprList, Types: []api.Type{{Kind: 99}}, Kids: []api.Expr{local("missing")}}, api.ErrArg},
		{api.Expr{Kind: api.ExprValue, Module: "a/v1", Name: "id", Types: []api.Type{deep}}, api.ErrTooLarge},
		{api.Expr{Kind: api.ExprFunc, Labels: []api.Label{{Name: "a", Type: deep}}, Kids: []api.Expr{local("missing")}}, api.ErrTooLarge},
		{api.Expr{Kind: api.ExprValue, Name: "i"}, api.ErrNotFound},
	} {
		if _, err := check.Type(lib(), nil, nil, x.e); err != x.want {
			t.Errorf("%v: %d, want %d", x.e, err, x.want)
		}
	}
}

// nested returns a chain of lets in front of a body: the first variable is 1, and each other one is a record with the variable before it in some fields.
func nested(lets int, names []string, body api.Expr) api.Expr {
	for k := range lets {
		made := api.Expr{Kind: api.ExprRecord}
		for _, name := range names {
			made.Labels = append(made.Labels, api.Label{Name: name})
			made.Kids = append(made.Kids, local("x"))
		}
		if k == lets-1 {
			made = number(1)
		}
		body = api.Expr{Kind: api.ExprLet, Name: "x", Kids: []api.Expr{made, body}}
	}
	return body
}

// P11.1: there is no limit on the types that arise.
func TestLargeTypes(t *testing.T) {
	names := []string{"a", "b"}
	const lets = 17
	got, err := check.Type(nil, nil, nil, nested(lets, names, local("x")))
	if size := syntax.TypeSize(got); err != api.OK || size != 1<<lets-1 || size <= api.MaxNodes {
		t.Errorf("a type of %d nodes, error %d", size, err)
	}
	// Each let has a record with a field that has a record with a field, and so on, as deep as an expression may be.
	e := local("x")
	for k := range api.MaxDepth - 1 {
		made := local("x")
		for range min(k, api.MaxDepth-1-k) {
			made = api.Expr{Kind: api.ExprRecord, Labels: []api.Label{{Name: "a"}}, Kids: []api.Expr{made}}
		}
		e = api.Expr{Kind: api.ExprLet, Name: "x", Kids: []api.Expr{made, e}}
	}
	if err := syntax.CheckExpr(e); err != api.OK {
		t.Fatal(err)
	}
	got, err = check.Type(nil, nil, locals("x: int"), e)
	if depth := syntax.TypeDepth(got); err != api.OK || depth <= 2*api.MaxDepth {
		t.Errorf("a type of the depth %d, error %d", depth, err)
	}
	if err := check.Against(nil, nil, locals("x: int"), e, got); err != api.OK {
		t.Errorf("the expression against its type: %d", err)
	}
}

// P1: of types that would be too large, only what is needed is made.
func TestSharedTypes(t *testing.T) {
	const lets = 15
	names := []string{"a", "b", "c", "d", "e", "f", "g", "h"}
	path := local("x")
	for range lets - 1 {
		path = api.Expr{Kind: api.ExprProject, Name: "h", Kids: []api.Expr{path}}
	}
	within(t, "the type of a part", func() {
		for _, body := range []api.Expr{number(1), path, expression("{a: 1, b: x}.a"), expression("(fn() => let y = {a: x, b: 1} in y.b)()")} {
			e := nested(lets, names, body)
			if err := syntax.CheckExpr(e); err != api.OK {
				t.Fatal(err)
			}
			if got, err := check.Type(nil, nil, nil, e); err != api.OK || !same(got, integer) {
				t.Errorf("%v: %v, error %d", body, got, err)
			}
		}
	})
}

// randomContext returns a context with random bounds, local variables with random types, among them one of the type none, and an author who knows them.
func randomContext(r *rand.Rand, env api.Env) (author, []api.Field) {
	a := author{generator: newGenerator(r, env)}
	for _, name := range []string{"X", "Y", "Z"} {
		a.context = append(a.context, api.Param{Name: name, Bound: a.typed(2)})
		a.variables = append(a.variables, name)
	}
	l := []api.Field{{Name: "n", Type: nothing}}
	for range 4 {
		l = with(l, a.name(), a.typed(2))
	}
	return a, l
}

// P11.1: random expressions, most of which have a type, and others in which something is wrong.
func TestRandomExpressions(t *testing.T) {
	r := rand.New(rand.NewSource(15))
	count := map[api.Errno]int{}
	kinds := map[int]int{}
	for range 400 {
		env := randomEnv(r)
		a, l := randomContext(r, env)
		for range 10 {
			want := a.typed(2)
			e := a.expr(l, want, 4)
			for range r.Intn(3) {
				e = a.spoiled(l, e)
			}
			if err := syntax.CheckExpr(e); err != api.OK && err != api.ErrArg {
				t.Fatalf("%v does not have its form: %d", e, err)
			}
			got, err := check.Type(env, a.context, l, e)
			other, expected := naive(env, a.context, l, e)
			if err != expected || !same(got, other) {
				t.Fatalf("in %v, %v, %v: %s has the type %v, error %d; want %v, error %d", env, a.context, l, shown(e), got, err, other, expected)
			}
			count[err]++
			if err == api.OK {
				kinds[e.Kind]++
				if !subtype.Is(env, a.context, other, want) {
					expected = api.ErrType
				}
			}
			if err := check.Against(env, a.context, l, e, want); err != expected {
				t.Fatalf("in %v, %v, %v: %s against %v: %d, want %d", env, a.context, l, shown(e), want, err, expected)
			}
		}
	}
	for _, err := range []api.Errno{api.OK, api.ErrNotFound, api.ErrArity, api.ErrBound, api.ErrType, api.ErrName, api.ErrArg} {
		if count[err] < 10 {
			t.Errorf("only %d expressions have the error %d", count[err], err)
		}
	}
	if len(kinds) != api.ExprOp+1 {
		t.Errorf("only %d kinds of expressions have a type", len(kinds))
	}
}

// checkKept checks that an expression that has a type has another one that is a subtype of it, after something has changed.
func checkKept(t *testing.T, env api.Env, c api.Context, l []api.Field, e api.Expr, limit api.Type) {
	t.Helper()
	got, err := check.Type(env, c, l, e)
	if err != api.OK || !subtype.Is(env, c, got, limit) {
		t.Fatalf("in %v, %v, %v: %s has the type %v, error %d, where %v is the limit", env, c, l, shown(e), got, err, limit)
	}
	if err := check.Against(env, c, l, e, limit); err != api.OK {
		t.Fatalf("in %v, %v, %v: %s against %v: %d", env, c, l, shown(e), limit, err)
	}
}

// P11.2: types are well-formed, and subtypes of local variables and bounds keep them.
func TestConsequences(t *testing.T) {
	r := rand.New(rand.NewSource(16))
	kept := 0
	for range 400 {
		env := randomEnv(r)
		a, l := randomContext(r, env)
		for range 5 {
			e := a.expr(l, a.typed(2), 4)
			before, err := check.Type(env, a.context, l, e)
			if err != api.OK {
				continue
			}
			if err := wellformed.Type(env, a.variables, before); err != api.OK && err != api.ErrTooLarge {
				t.Fatalf("in %v, %v, %v: the type %v of %s is not well-formed: %d", env, a.context, l, before, shown(e), err)
			}
			narrow := slices.Clone(l)
			for i := range narrow {
				if other := a.moved(narrow[i].Type, false, 3); subtype.Is(env, a.context, other, narrow[i].Type) {
					narrow[i].Type = other
				}
			}
			checkKept(t, env, a.context, narrow, e, before)
			below := slices.Clone(a.context)
			for i := range below {
				if other := a.inside(i).moved(below[i].Bound, false, 3); subtype.Is(env, below, other, below[i].Bound) {
					below[i].Bound = other
				}
			}
			checkKept(t, env, below, l, e, before)
			kept++
		}
	}
	if kept < 500 {
		t.Errorf("only %d expressions have a type", kept)
	}
}

// P11.2: a subtype of its bound can stand for a variable everywhere.
func TestConsequencesOfSubstitution(t *testing.T) {
	r := rand.New(rand.NewSource(17))
	kept := 0
	for range 500 {
		env := randomEnv(r)
		a, l := randomContext(r, env)
		k := r.Intn(len(a.context))
		other := a.inside(k).moved(a.context[k].Bound, false, 3)
		if !subtype.Is(env, a.context[:k], other, a.context[k].Bound) {
			continue
		}
		put := func(t api.Type) api.Type {
			return syntax.Substitute(t, []string{a.context[k].Name}, []api.Type{other})
		}
		after := slices.Clone(a.context[:k])
		for _, param := range a.context[k+1:] {
			after = append(after, api.Param{Name: param.Name, Bound: put(param.Bound)})
		}
		var closed []api.Field
		for _, field := range l {
			closed = append(closed, api.Field{Name: field.Name, Type: put(field.Type)})
		}
		for range 5 {
			e := a.expr(l, a.typed(2), 4)
			if before, err := check.Type(env, a.context, l, e); err == api.OK {
				checkKept(t, env, after, closed, changed(e, put), put(before))
				kept++
			}
		}
	}
	if kept < 500 {
		t.Errorf("only %d expressions have a type", kept)
	}
}

// P1: walks end for expressions, types and environments without their form.
func TestEnds(t *testing.T) {
	r := rand.New(rand.NewSource(18))
	within(t, "a random walk", func() {
		for range 3000 {
			env := random[api.Env](r, 5)
			for i := range env {
				env[i].Path = []string{"a/v1", "b/v1"}[r.Intn(2)]
			}
			c, l := random[api.Context](r, 3), random[[]api.Field](r, 4)
			e, u := random[api.Expr](r, 5), random[api.Type](r, 3)
			if got, err := check.Type(env, c, l, e); err != api.OK && !same(got, api.Type{}) {
				t.Fatalf("there is the type %v beside the error %d", got, err)
			}
			check.Against(env, c, l, e, u)
		}
		wrong := []api.Type{{Kind: api.TypeList}, {Kind: api.TypeFunc}, {Kind: api.TypeVariant, Fields: make([]api.Field, 2)}, {Kind: -1}, {Kind: 99}, reference("z/v1", "N"), variable("Q")}
		for kind := -1; kind <= api.ExprOp+1; kind++ {
			for kids := range 4 {
				for _, u := range wrong {
					l := []api.Field{{Name: "x", Type: u}}
					e := api.Expr{Kind: kind, Name: "x", Text: "x", Types: []api.Type{integer}, Labels: make([]api.Label, 2)}
					for range kids {
						e.Kids = append(e.Kids, local("x"))
					}
					check.Type(nil, nil, l, e)
					check.Type(nil, nil, l, api.Expr{Kind: kind, Kids: e.Kids})
					check.Against(nil, nil, l, e, u)
				}
			}
		}
		deep := local("x")
		for range 1 << 16 {
			deep = api.Expr{Kind: api.ExprInject, Name: "a", Kids: []api.Expr{deep}}
		}
		check.Against(nil, nil, locals("y: int"), deep, integer)
	})
}

// everything returns the results of all functions.
func everything(env api.Env, c api.Context, l []api.Field, e api.Expr, u api.Type) []any {
	t, err := check.Type(env, c, l, e)
	return []any{t, err, check.Against(env, c, l, e, u)}
}

// P1, P2, P3: the results are the same in several goroutines, and share no memory with the arguments, which stay as they are.
func TestSharedUse(t *testing.T) {
	r := rand.New(rand.NewSource(19))
	for range 200 {
		env := randomEnv(r)
		a, l := randomContext(r, env)
		u := a.typed(2)
		e := a.expr(l, u, 4)
		arguments := []any{env, a.context, l, e, u}
		before := []any{duplicate(env), duplicate(a.context), duplicate(l), duplicate(e), duplicate(u)}
		want := everything(env, a.context, l, e, u)
		var group sync.WaitGroup
		for range 4 {
			group.Go(func() {
				if !reflect.DeepEqual(everything(env, a.context, l, e, u), want) {
					t.Error("another result in a goroutine")
				}
			})
		}
		group.Wait()
		for i, argument := range []any{duplicate(env), duplicate(a.context), duplicate(l), duplicate(e), duplicate(u)} {
			if !reflect.DeepEqual(argument, before[i]) {
				t.Fatal("an argument has changed")
			}
		}
		checkNew(t, "a type", want[0], arguments...)
	}
	env, l := lib(), locals("x: list[int]; r: {a: list[int]}")
	for _, source := range []string{"x", "{a: x, b: x}", "r.a", "<a: r>", "fn(a: list[int]) => a", "(x: list[any])", "[list[int]|x]", "fn() => fn(a: {b: int}) => {a: a, b: a}", "a::id[list[int]]", "let y = x in {a: y, b: y}"} {
		e := expression(source)
		got, err := check.Type(env, nil, l, e)
		if err != api.OK {
			t.Fatalf("%s: %d", source, err)
		}
		checkNew(t, "the type of "+source, got, env, l, e)
	}
}
