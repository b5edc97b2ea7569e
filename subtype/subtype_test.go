package subtype_test

import (
	"math/rand"
	"reflect"
	"strconv"
	"strings"
	"sync"
	"testing"

	"modcert/api"
	"modcert/environ"
	"modcert/subtype"
	"modcert/syntax"
	"modcert/wellformed"
)

// lib has abstract and transparent types, types with parameters, recursive types, and facades.
func lib() api.Env {
	return environment(
		`module a/v1
		export type N >: int <: any = int
		export type O <: any = int
		export type Up <: {a: int} = {a: int}
		export type Low >: {a: int, b: text} <: any = any
		export type Mid >: {a: int, b: text} <: {a: int} = {a: int, b: text}
		export type Same = {a: int}
		export type Co[+X] <: any = X
		export type Contra[-X] <: any = fn(x: X) int
		export type Inv[=X] <: any = fn(x: X) X
		export type Three[+X, -Y, =Z] <: any = any
		export type Some[+X] >: X <: any = X
		export type Phantom[=X] = int
		export type Odd[=X] >: bool <: any = any
		export type Full[+X] = any`,
		`module b/v1
		import a/v1 as a
		export use a::N as N
		export use a::Co as Box
		export use a::Contra as Sink
		export use a::Same as Other
		export type Same = {a: int}
		export type O <: any = int
		export type Co[+X] <: any = X`,
		`module c/v1
		import b/v1 as b
		import a/v1 as a
		export use b::Box as Case
		export use a::Inv as Cell
		export use b::N as N`,
		`module r/v1
		export type L = {next: L}
		export type M = {next: {next: M}}
		export type Text = {next: Text, v: text}
		export type Int = {next: Int, v: int}
		export type Down <: {next: Down} = {next: Down}
		export type List[+X] = <cons: {head: X, tail: List[X]} | nil: {}>
		export type Cells[=X] = <cons: {head: X, tail: Cells[X]} | nil: {}>
		export type Twice[+X] = <cons: {head: X, tail: <cons: {head: X, tail: Twice[X]} | nil: {}>} | nil: {}>
		export type Full[+X] = <cons: {head: X, tail: Full[X]}>
		export type Even = {n: Uneven}
		export type Uneven = {n: Even, odd: bool}
		export type Eats = fn(x: Eats) int
		export type Eats2 = fn(x: Eats3) int
		export type Eats3 = fn(x: Eats2) int
		export type P = {a: Q, b: int}
		export type Q = {c: P}
		export type P2 = {a: Q2, b: text}
		export type Q2 = {c: P2}`,
	)
}

const variables = "X <: int, Y <: X, Z <: {a: X}, W <: a::Co[Y], A <: any, B <: Z"

// checkJudgments checks whether judgments hold.
func checkJudgments(t *testing.T, env api.Env, context api.Context, want bool, judgments ...string) {
	t.Helper()
	for _, source := range judgments {
		a, b := judged(source)
		if got := subtype.Is(env, context, a, b); got != want {
			t.Errorf("it is %v that %s", got, source)
		}
		if got, known := naive(env, context, a, b); known && got != want {
			t.Errorf("%s is expected to be %v", source, want)
		}
	}
}

// P9.1, rule 1: none, any, basic types and variables.
func TestAxioms(t *testing.T) {
	env, c := lib(), context(variables)
	checkJudgments(t, env, c, true, "any <: any", "none <: none", "none <: any", "int <: int", "bool <: bool", "text <: text", "none <: int", "none <: list[int]", "none <: {a: int}", "none <: <>", "none <: fn() int", "none <: X", "none <: a::O", "none <: a::Inv[int]",
		"int <: any", "list[any] <: any", "{} <: any", "<a: int> <: any", "fn(x: int) int <: any", "X <: any", "a::O <: any", "A <: any", "X <: X", "A <: A", "Z <: Z")
	checkJudgments(t, env, c, false, "any <: none", "any <: int", "any <: text", "any <: {}", "any <: list[any]", "any <: fn() any", "any <: <>", "any <: A", "any <: a::O", "int <: none", "text <: none", "{} <: none", "A <: none", "a::O <: none", "int <: bool", "bool <: int", "int <: text", "text <: int", "bool <: text", "text <: bool",
		"int <: X", "text <: X", "X <: A", "A <: X", "A <: int", "int <: {}", "{} <: int", "{} <: <>", "<> <: {}", "list[int] <: {}", "{} <: list[{}]", "fn() int <: int", "int <: fn() int", "fn() int <: {}", "<> <: none", "<> <: int", "list[int] <: int", "int <: list[int]")
}

// P9.1, rule 2: lists, records and variants.
func TestParts(t *testing.T) {
	env, c := lib(), context(variables)
	checkJudgments(t, env, c, true, "list[int] <: list[int]", "list[int] <: list[any]", "list[none] <: list[int]", "list[list[X]] <: list[list[int]]",
		"{} <: {}", "{a: int} <: {}", "{a: int} <: {a: int}", "{a: int} <: {a: any}", "{a: int, b: text} <: {a: int}", "{a: int, b: text} <: {b: text}", "{a: int, b: text} <: {a: any, b: any}", "{a: int, b: text, c: bool} <: {a: int, c: any}", "{a: {b: int, c: text}} <: {a: {b: any}}", "{a: none} <: {a: int}",
		"<> <: <>", "<> <: <a: int>", "<a: int> <: <a: int>", "<a: int> <: <a: any>", "<a: int> <: <a: int | b: text>", "<b: text> <: <a: int | b: any | c: bool>", "<a: <b: int>> <: <a: <b: int | c: int>>", "<a: none> <: <a: int>", "<a: X> <: <a: int>")
	checkJudgments(t, env, c, false, "list[any] <: list[int]", "list[int] <: list[none]", "list[int] <: list[text]", "list[int] <: list[X]",
		"{} <: {a: int}", "{} <: {a: any}", "{a: int} <: {b: int}", "{a: any} <: {a: int}", "{a: int} <: {a: text}", "{a: int} <: {a: int, b: int}", "{a: int, b: int} <: {a: int, b: text}", "{a: text, b: int} <: {a: int, b: int}", "{a: int, c: int} <: {a: int, b: int}", "{a: {}} <: {a: {b: any}}", "{a: int} <: {a: none}",
		"<a: int> <: <>", "<a: none> <: <>", "<a: int> <: <b: int>", "<a: any> <: <a: int>", "<a: int | b: text> <: <a: int>", "<a: int | b: text> <: <b: text>", "<a: int | b: text> <: <a: int | b: int>", "<a: text | b: int> <: <a: int | b: int>", "<a: int> <: <a: text | b: int>", "<a: int> <: {a: int}", "{a: int} <: <a: int>")
}

// P9.1, rule 2: functions, with and without optional parameters.
func TestFunctions(t *testing.T) {
	env, c := lib(), context(variables)
	checkJudgments(t, env, c, true, "fn() int <: fn() int", "fn() int <: fn() any", "fn() none <: fn() int", "fn(a: int) int <: fn(a: int) int", "fn(a: any) int <: fn(a: int) int", "fn(a: int) int <: fn(a: none) int", "fn(a: int) int <: fn(a: X) any", "fn(a: any, b?: int) int <: fn(a: int) any",
		"fn(a?: int) int <: fn() int", "fn(a?: int) int <: fn(a: int) int", "fn(a?: int) int <: fn(a?: int) int", "fn(a?: any) int <: fn(a?: int) int", "fn(a?: int, b?: int) int <: fn(b: int) int", "fn(a?: int, b: text) int <: fn(b: text) int", "fn(a?: int, b: text) int <: fn(a?: int, b: text) int", "fn(a?: int, b?: text) int <: fn(a: int, b?: text) int",
		"fn(a: fn(b: int) int) int <: fn(a: fn(b: any) int) int", "fn(a: fn(b: int) int) int <: fn(a: fn(b?: int) int) int", "fn() fn(a?: int) int <: fn() fn() int", "fn(a: {}) int <: fn(a: {b: int}) int", "fn(a: <b: int | c: int>) int <: fn(a: <b: int>) int")
	checkJudgments(t, env, c, false, "fn() any <: fn() int", "fn() int <: fn() text", "fn(a: int) int <: fn() int", "fn() int <: fn(a: int) int", "fn() int <: fn(a?: int) int", "fn(a: int) int <: fn(a: any) int", "fn(a: int) int <: fn(b: int) int", "fn(a: int) int <: fn(a: int) text", "fn(a: int) int <: fn(a: text) int", "fn(a: X) int <: fn(a: int) int",
		"fn(a: int) int <: fn(a?: int) int", "fn(a: any) int <: fn(a?: int) int", "fn(a?: int) int <: fn(a: text) int", "fn(a?: int) int <: fn(a?: any) int", "fn(a?: int, b: int) int <: fn(a: int) int", "fn(a: int, b?: int) int <: fn(b: int) int", "fn(a: int, b: int) int <: fn(a: int, b?: int) int", "fn(a: int, b: int) int <: fn(a: int, b: text) int", "fn(a: text, b: int) int <: fn(a: int, b: int) int", "fn(a?: int) int <: fn(b?: int) int", "fn(a?: int, c?: int) int <: fn(b: int) int",
		"fn(a: fn(b: any) int) int <: fn(a: fn(b: int) int) int", "fn(a: fn(b?: int) int) int <: fn(a: fn(b: int) int) int", "fn(a: {b: int}) int <: fn(a: {}) int", "fn() int <: {}", "{} <: fn() any")
}

// P9.1, rule 3: references with one end, by the variances of the parameters.
func TestArguments(t *testing.T) {
	env, c := lib(), context(variables)
	checkJudgments(t, env, c, true, "a::O <: a::O", "a::N <: b::N", "b::N <: a::N", "c::N <: b::N", "a::N <: c::N", "a::Co[int] <: a::Co[int]", "a::Co[int] <: a::Co[any]", "a::Co[none] <: a::Co[int]", "a::Contra[any] <: a::Contra[int]", "a::Contra[int] <: a::Contra[none]", "a::Inv[int] <: a::Inv[int]", "a::Inv[{a: int}] <: a::Inv[a::Same]", "a::Inv[a::Same] <: a::Inv[b::Same]",
		"a::Co[int] <: b::Box[int]", "b::Box[int] <: a::Co[any]", "c::Case[int] <: b::Box[any]", "b::Box[X] <: c::Case[int]", "b::Sink[int] <: a::Contra[X]", "a::Contra[int] <: b::Sink[X]", "c::Cell[X] <: a::Inv[X]", "a::Three[int, int, int] <: a::Three[any, none, int]", "a::Three[X, int, text] <: a::Three[int, X, text]",
		"a::Co[a::Co[int]] <: a::Co[b::Box[any]]", "a::Contra[a::Contra[int]] <: a::Contra[a::Contra[any]]", "a::Co[a::Contra[any]] <: a::Co[a::Contra[int]]", "a::Contra[a::Co[any]] <: a::Contra[a::Co[int]]", "a::Inv[a::Co[int]] <: a::Inv[c::Case[int]]", "a::Co[{a: int}] <: a::Co[{}]")
	checkJudgments(t, env, c, false, "a::O <: b::O", "b::O <: a::O", "a::Co[int] <: b::Co[int]", "a::Co[any] <: a::Co[int]", "a::Co[int] <: a::Co[text]", "a::Contra[int] <: a::Contra[any]", "a::Contra[none] <: a::Contra[int]", "a::Inv[int] <: a::Inv[any]", "a::Inv[any] <: a::Inv[int]", "a::Inv[none] <: a::Inv[int]", "a::Inv[X] <: a::Inv[int]", "a::Inv[int] <: c::Cell[X]",
		"b::Box[any] <: c::Case[int]", "b::Sink[X] <: a::Contra[int]", "a::Three[any, int, int] <: a::Three[int, int, int]", "a::Three[int, int, int] <: a::Three[int, any, int]", "a::Three[int, int, int] <: a::Three[int, int, any]", "a::Three[int, int, any] <: a::Three[int, int, int]",
		"a::Co[a::Contra[int]] <: a::Co[a::Contra[any]]", "a::Contra[a::Co[int]] <: a::Contra[a::Co[any]]", "a::Contra[a::Contra[any]] <: a::Contra[a::Contra[int]]", "a::Inv[a::Co[int]] <: a::Inv[a::Co[any]]", "a::Co[int] <: a::Contra[int]", "a::O <: a::Co[int]", "a::Co[int] <: a::O")
}

// P9.1, rules 4 and 5: bounds, also where the arguments of one type do not match.
func TestBounds(t *testing.T) {
	env, c := lib(), context(variables)
	checkJudgments(t, env, c, true, "int <: a::N", "int <: b::N", "int <: c::N", "none <: a::N", "X <: a::N", "Y <: c::N", "a::Up <: {a: int}", "a::Up <: {}", "a::Up <: {a: any}", "a::Up <: a::Same", "{a: int, b: text} <: a::Low", "{a: int, b: text, c: int} <: a::Low", "a::Mid <: {a: int}", "{a: int, b: text} <: a::Mid", "{a: int, b: text} <: a::Same", "a::Mid <: a::Same", "a::Same <: {a: int}", "{a: int} <: a::Same", "a::Same <: b::Other", "b::Same <: a::Same", "a::Same <: b::Same",
		"X <: int", "Y <: int", "Y <: X", "Z <: {a: int}", "Z <: {a: X}", "Z <: {}", "Z <: a::Same", "B <: Z", "B <: {a: X}", "B <: a::Same", "W <: a::Co[Y]", "W <: a::Co[X]", "W <: b::Box[int]",
		"int <: a::Some[int]", "int <: a::Some[any]", "X <: a::Some[int]", "a::Phantom[int] <: a::Phantom[text]", "a::Phantom[int] <: int", "int <: a::Phantom[text]", "bool <: a::Odd[int]", "a::Full[int] <: a::Full[text]", "any <: a::Full[int]", "a::Full[int] <: any", "list[a::Up] <: list[{a: int}]", "{x: X} <: {x: a::N}", "fn(x: a::N) a::Up <: fn(x: int) {}", "a::Co[a::Up] <: b::Box[{a: int}]", "a::Inv[a::Phantom[int]] <: a::Inv[int]")
	checkJudgments(t, env, c, false, "a::N <: int", "text <: a::N", "a::O <: int", "int <: a::O", "{a: int} <: a::Up", "a::Up <: {b: int}", "a::Up <: {a: text}", "a::Low <: {}", "a::Low <: {a: int, b: text}", "{a: int} <: a::Low", "{a: int} <: a::Mid", "a::Mid <: {a: int, b: text}", "a::Mid <: a::Low", "a::Low <: a::Mid", "a::Up <: a::Low", "a::Same <: a::Up", "a::Same <: a::Low", "a::N <: a::O", "int <: X", "X <: Y", "int <: Y", "Z <: B", "{a: X} <: Z", "Z <: {a: Y}", "Z <: {b: any}", "W <: a::Co[none]", "W <: a::Co[W]", "W <: X", "A <: a::N", "X <: text",
		"any <: a::Some[int]", "text <: a::Some[int]", "int <: a::Some[X]", "a::Some[int] <: int", "a::Odd[int] <: a::Odd[text]", "int <: a::Odd[int]", "a::Odd[int] <: bool", "list[{a: int}] <: list[a::Up]", "fn(x: int) int <: fn(x: a::N) int", "a::Inv[a::Up] <: a::Inv[{a: int}]")
	if subtype.Is(env, nil, variable("X"), integer) || !subtype.Is(env, nil, integer, integer) {
		t.Error("a variable that is not in the context has a bound")
	}
	if subtype.Is(nil, nil, integer, text) || !subtype.Is(nil, nil, integer, anything) {
		t.Error("an empty environment has other basic types")
	}
}

// P9.1: recursive types, among them those that fail behind judgments that were assumed.
func TestRecursion(t *testing.T) {
	env, c := lib(), context(variables)
	checkJudgments(t, env, c, true, "r::L <: r::L", "r::L <: r::M", "r::M <: r::L", "r::Int <: r::L", "r::Text <: r::M", "r::L <: {next: r::M}", "{next: r::L} <: r::M", "r::Down <: r::L", "r::Down <: r::M", "{next: {next: r::L}} <: r::L", "r::List[X] <: r::List[int]", "r::List[int] <: r::Twice[int]", "r::Twice[int] <: r::List[int]", "r::Twice[X] <: r::List[int]", "r::List[X] <: r::Twice[any]", "r::Cells[int] <: r::List[int]", "r::List[int] <: r::Cells[int]", "r::Cells[X] <: r::Cells[int]", "r::Full[int] <: r::List[int]", "r::Uneven <: {n: r::Even}", "r::Even <: {n: {n: {n: {odd: any}}}}", "r::Eats <: r::Eats2", "r::Eats3 <: r::Eats", "r::P <: r::P", "r::Q <: {c: {a: r::Q}}", "<nil: {}> <: r::List[none]")
	checkJudgments(t, env, c, false, "r::L <: r::Int", "r::M <: r::Text", "r::Int <: r::Text", "r::L <: r::Down", "r::List[int] <: r::List[X]", "r::List[any] <: r::Twice[int]", "r::Twice[any] <: r::List[int]", "r::Cells[any] <: r::Cells[int]", "r::List[int] <: r::Full[int]", "r::Even <: r::Uneven", "r::Uneven <: r::Even", "r::Even <: {n: {n: {n: {even: any}}}}", "fn(x: {}) int <: fn(x: fn(x: fn(x: r::Eats) int) int) int", "r::P <: r::P2", "r::Q <: r::Q2", "r::Q2 <: r::Q", "<nil: {}> <: r::Full[int]",
		// Behind the first field it is known that r::P <: r::P2 fails; what was assumed on the way must not be believed any more.
		"{a: a::Full[r::P], b: r::Q} <: {a: a::Full[r::P2], b: r::Q2}", "{a: r::Q, b: a::Full[r::P]} <: {a: r::Q2, b: a::Full[r::P2]}", "{a: a::Full[r::Q], b: r::P} <: {a: a::Full[r::Q2], b: r::P2}", "{a: r::P, b: a::Full[r::Q]} <: {a: r::P2, b: a::Full[r::Q2]}")
	checkJudgments(t, env, c, true, "{a: a::Full[r::P], b: a::Full[r::Q]} <: {a: a::Full[r::P2], b: a::Full[r::Q2]}", "{a: a::Full[r::Q], b: r::Q} <: {a: a::Full[r::Q2], b: {c: {a: any, b: any}}}")
}

// P9.1: both directions.
func TestEquivalent(t *testing.T) {
	env, c := lib(), context(variables)
	for source, want := range map[string]bool{
		"int <: int": true, "any <: any": true, "X <: X": true, "a::Same <: b::Same": true, "a::Same <: {a: int}": true, "{a: int} <: b::Other": true, "a::N <: c::N": true, "r::L <: r::M": true, "r::List[int] <: r::Twice[int]": true, "r::Eats <: r::Eats3": true, "a::Phantom[int] <: a::Phantom[text]": true, "a::Full[int] <: any": true, "r::Cells[r::L] <: r::List[r::M]": true, "a::Inv[a::Same] <: c::Cell[{a: int}]": true,
		"int <: any": false, "none <: int": false, "X <: int": false, "Y <: X": false, "int <: a::N": false, "a::Up <: {a: int}": false, "a::Mid <: a::Same": false, "{a: int} <: {}": false, "fn(a?: int) int <: fn(a: int) int": false, "a::Co[X] <: a::Co[int]": false, "r::Int <: r::L": false, "r::Int <: r::Text": false, "a::O <: b::O": false, "int <: text": false,
	} {
		a, b := judged(source)
		if there, back := subtype.Equivalent(env, c, a, b), subtype.Equivalent(env, c, b, a); there != want || back != want {
			t.Errorf("the equivalence of %s is %v and %v", source, there, back)
		}
	}
}

// P9.2: variables and references become their upper bounds, until there are no more.
func TestExpose(t *testing.T) {
	env := environment(
		"module a/v1 export type N >: int <: any = int export type Up <: {a: int} = {a: int} export type Id[=X] = X export type Both[+X, +Y] <: {a: Y, b: X} = {a: Y, b: X} export type R = {next: R} export type Fn[-X] = fn(x: X) int",
		"module b/v1 import a/v1 as a export use a::Up as Up export type Far <: a::Up = a::Up export type More <: Far = Far export type Wrap[=X] <: a::Id[a::Both[X, Far]] = a::Id[a::Both[X, Far]] use a::Id as Same")
	c := context("X <: int, Y <: X, Z <: b::More, W <: a::Id[Z], A <: any, B <: b::Wrap[Y]")
	for source, want := range map[string]string{
		"int": "int", "any": "any", "none": "none", "list[X]": "list[X]", "{a: X, b: a::Up}": "{a: X, b: a::Up}", "<a: X>": "<a: X>", "fn(a: X, b?: a::Up) Y": "fn(a: X, b?: a::Up) Y",
		"X": "int", "Y": "int", "Z": "{a: int}", "W": "{a: int}", "A": "any", "a::N": "any", "a::Up": "{a: int}", "b::Up": "{a: int}", "b::Far": "{a: int}", "b::More": "{a: int}", "a::Id[Y]": "int", "a::Id[none]": "none", "b::Same[list[X]]": "list[X]", "a::Id[a::Id[b::More]]": "{a: int}", "a::Id[b::Same[A]]": "any",
		"a::Both[X, int]": "{a: int, b: X}", "a::Both[a::Up, Z]": "{a: Z, b: a::Up}", "b::Wrap[X]": "{a: b::Far, b: X}", "B": "{a: b::Far, b: Y}", "a::R": "{next: a::R}", "a::Fn[a::Up]": "fn(x: a::Up) int", "a::Id[a::Fn[X]]": "fn(x: X) int",
	} {
		if got := subtype.Expose(env, c, typed(source)); !same(got, typed(want)) {
			t.Errorf("%s exposes to %v, not to %s", source, got, want)
		}
	}
	if got := subtype.Expose(env, c[:1], variable("A")); !same(got, variable("A")) {
		t.Errorf("a variable without a bound exposes to %v", got)
	}
	if got := subtype.Expose(env, context("X <: Y"), variable("X")); !same(got, variable("Y")) {
		t.Errorf("a variable without a bound exposes to %v", got)
	}
	twice := append(context("X <: int, X <: text"), c...)
	if got := subtype.Expose(env, twice, variable("X")); !same(got, integer) || subtype.Is(env, twice, variable("X"), text) {
		t.Errorf("the bound of a variable is not the first one, but %v", got)
	}
}

// P9.1: types that differ, however many others there are and whatever their names are.
func TestDifferentTypes(t *testing.T) {
	env := environment("module a/v1 export type N[+X, +Y, +Z] <: any = any")
	lists := []api.Type{integer}
	for range 24 {
		lists = append(lists, list(lists[len(lists)-1]))
	}
	n := func(x, y, z int) api.Type { return reference("a/v1", "N", lists[x], lists[y], lists[z]) }
	named := func(name string, x int) api.Type {
		return record(api.Field{Name: name, Type: lists[x]}, api.Field{Name: "z", Type: lists[24]})
	}
	for i := range 3 {
		for j := range 25 {
			for k := 10; k < 25; k++ {
				for l := range 10 {
					if subtype.Is(env, nil, n(24, i, j), n(24, k, l)) {
						t.Fatalf("N[.., %d, %d] is N[.., %d, %d]", i, j, k, l)
					}
				}
			}
		}
	}
	for k := range 10 {
		if a, b := named("a1", k), named("a", 10+k); subtype.Is(env, nil, a, b) || subtype.Is(env, nil, b, a) {
			t.Fatalf("%v and %v are not different", a, b)
		}
	}
}

// P9.1: the statements are about types with up to 120 different ones, however large their trees are.
func TestManyTypes(t *testing.T) {
	const levels = 38
	a, b := "module a/v1 export type T0[+X] = X", "module b/v1 export type T0[+X] <: X = X"
	for k := 1; k <= levels; k++ {
		part := "T" + strconv.Itoa(k-1) + "[{l: X, r: X}]"
		a += " export type T" + strconv.Itoa(k) + "[+X] = {a: " + part + "}"
		b += " export type T" + strconv.Itoa(k) + "[+X] <: {a: " + part + "} = {a: " + part + "}"
	}
	env := environment(a, b)
	top := "T" + strconv.Itoa(levels)
	within(t, "a decision about types with large trees", func() {
		checkLarge := func(source string, want bool) {
			s, u := judged(source)
			if got := subtype.Is(env, nil, s, u); got != want {
				t.Errorf("it is %v that %s", got, source)
			}
		}
		checkLarge("b::"+top+"[int] <: a::"+top+"[int]", true)
		checkLarge("b::"+top+"[none] <: a::"+top+"[int]", true)
		checkLarge("b::"+top+"[int] <: a::"+top+"[text]", false)
		checkLarge("a::"+top+"[int] <: b::"+top+"[int]", false)
		if s, u := judged("a::" + top + "[int] <: " + "{a: a::T" + strconv.Itoa(levels-1) + "[{l: int, r: int}]}"); !subtype.Equivalent(env, nil, s, u) {
			t.Error("a large type is not equivalent to its bound")
		}
	})
	// Two cycles of different lengths meet in each pair of their types.
	cycle := func(path string, length int) string {
		source := "module " + path
		for k := range length {
			source += " export type C" + strconv.Itoa(k) + " = {next: C" + strconv.Itoa((k+1)%length) + "}"
		}
		return source
	}
	env = environment(cycle("a/v1", 59), cycle("b/v1", 61))
	for want, source := range map[bool]string{true: "a::C0 <: b::C1", false: "a::C0 <: {next: b::C1, a: int}"} {
		s, u := judged(strings.Replace(source, "{next: b::C1, a: int}", "{a: int, next: b::C1}", 1))
		if got := subtype.Is(env, nil, s, u); got != want {
			t.Errorf("it is %v that %s", got, source)
		}
	}
}

// checkValid checks what Valid says of an environment.
func checkValid(t *testing.T, env api.Env, path, name string, err api.Errno) {
	t.Helper()
	gotPath, gotName, got := subtype.Valid(env)
	if gotPath != path || gotName != name || got != err {
		t.Errorf("%v has the error %d at %q, %q, not %d at %q, %q", env, got, gotPath, gotName, err, path, name)
	}
}

// P9.3: lower bounds that are no subtypes of upper ones, and what comes before them.
func TestValid(t *testing.T) {
	checkValid(t, nil, "", "", api.OK)
	checkValid(t, lib(), "", "", api.OK)
	for source, want := range map[string]string{
		"type N >: int <: any = int": "", "type N >: none <: none = none": "", "type N >: int <: int = int": "", "type N >: any <: int = int": "N", "type N >: int <: text = int": "N", "type N >: any <: none = int": "N", "type N >: {a: int} <: {} = {}": "", "type N >: {} <: {a: int} = {a: int}": "N",
		"type N[+X] >: X <: any = any": "", "type N[+X] >: X <: X = X": "", "type N[=X] >: fn(x: X) X <: fn(x: none) any = fn(x: X) X": "", "type N[=X] >: X <: int = int": "N", "type N[+X, +Y] >: X <: Y = int": "N", "type N[=X] >: int <: X = X": "N", "type N[+X, +Y] >: {a: X, b: Y} <: {b: Y} = any": "",
		"type A >: any <: none = int type B >: int <: text = int": "A", "type B >: any <: none = int type A >: int <: text = int": "A", "type A = int type B >: int <: text = int type C >: int <: text = int": "B",
		"type A >: int <: any = int type B >: A <: int = int": "B", "type A >: int <: any = int type B >: int <: A = int": "", "type A <: int = int type B >: A <: int = int": "", "type A <: int = int type B >: int <: A = int": "B", "type L = {next: L} type M >: {next: L} <: {next: {next: L}} = L": "", "type L >: {next: L, a: int} <: {next: L} = {next: L}": "", "type L >: {next: L} <: {next: L, a: int} = {next: L}": "L", "type L >: {next: {next: L}} <: {next: L} = L": "", "type L >: {next: {}} <: {next: L} = L": "L",
		// Bounds that are not consistent can make others hold.
		"type A >: any <: none = int type B >: int <: text = int type C = int": "A", "type B >: int <: text = int type Z >: any <: none = int": "B", "type C >: int <: Z = int type Z >: any <: none = int": "Z", "type D >: text <: {a: Z} = int type Z >: any <: none = int": "D", "type E >: Z <: int = int type Z >: any <: none = int": "Z",
		"type P8[=A, =B, =C, =D, =E, =F, =G, =H] >: {a: A, h: H} <: {h: H} = {a: A, h: H}": "", "type P8[=A, =B, =C, =D, =E, =F, =G, =H] >: {g: G, h: H} <: {g: H} = {a: A, h: H}": "P8",
	} {
		env := environment("module m/v1 " + strings.ReplaceAll(" "+source, " type", " export type"))
		if want == "" {
			checkValid(t, env, "", "", api.OK)
		} else {
			checkValid(t, env, "m/v1", want, api.ErrBound)
		}
	}
	for _, x := range []struct{ a, b, path, name string }{
		{"type N >: any <: none = int", "type M >: any <: none = int", "a/v1", "N"}, {"type N = int", "type M >: any <: none = int", "b/v1", "M"}, {"type N = int", "import a/v1 as a export type M >: a::N <: int = int", "", ""}, {"type N <: any = int", "import a/v1 as a export type M >: a::N <: int = int", "b/v1", "M"}, {"type N >: int <: any = int", "import a/v1 as a export type M >: int <: a::N = int", "", ""}, {"type N <: {x: text} = int", "import a/v1 as a export use a::N as M export type O >: M <: {} = int", "", ""},
	} {
		err := api.ErrBound
		if x.path == "" {
			err = api.OK
		}
		checkValid(t, environment("module a/v1 export "+x.a, "module b/v1 "+exported(x.b)), x.path, x.name, err)
	}
}

// exported returns declarations that are exported, behind imports.
func exported(source string) string {
	if strings.HasPrefix(source, "import") {
		return source
	}
	return "export " + source
}

// P9.3: an environment that is not well-formed has the error of layer 8, and no name, whatever the bounds of its types are.
func TestValidIsWellformed(t *testing.T) {
	wrong := api.Interface{Path: "a/v1", Types: []api.TypeEntry{{Name: "N", Lower: anything, Upper: nothing}}}
	checkValid(t, api.Env{wrong}, "a/v1", "N", api.ErrBound)
	for _, env := range []api.Env{
		{wrong, wrong}, {{Path: "b/v1"}, wrong}, {wrong, {Path: "b"}}, {wrong, {Path: "b/v1", Types: []api.TypeEntry{{Name: "n"}}}}, {wrong, {Path: "b/v1", Types: []api.TypeEntry{{Name: "N", Lower: reference("b/v1", "N"), Upper: reference("b/v1", "N")}}}},
		{wrong, {Path: "b/v1", Values: []api.ValueEntry{{Name: "v", Type: reference("z/v1", "N")}}}}, {wrong, {Path: "b/v1", Deprecated: []api.Deprecation{{Name: "x"}}}}, make(api.Env, api.MaxModules+1), {{}},
		{{Path: "a/v1", Aliases: []api.AliasEntry{{Name: "N", Module: "b/v1", Target: "N"}}, Types: []api.TypeEntry{{Name: "M", Lower: anything, Upper: nothing}}}, {Path: "b/v1", Types: []api.TypeEntry{{Name: "N", Lower: anything, Upper: reference("a/v1", "M")}}}},
	} {
		path, err := wellformed.Env(env)
		if err == api.OK {
			t.Fatalf("%v is well-formed", env)
		}
		checkValid(t, env, path, "", err)
	}
}

// P9.1, P9.3: random judgments in random environments, decided as the chapter says it.
func TestRandomJudgments(t *testing.T) {
	r := rand.New(rand.NewSource(9))
	count := map[bool]int{}
	for range 400 {
		env := randomEnv(r)
		for _, i := range env {
			for _, e := range i.Types {
				if holds, known := naive(env, e.Params, e.Lower, e.Upper); known && !holds {
					t.Fatalf("%s of %v has bounds that are not consistent", e.Name, i)
				}
			}
		}
		g, c := randomContext(r, env)
		for range 12 {
			s := g.typed(3)
			u := g.moved(s, r.Intn(5) > 1, 4)
			if want, known := naive(env, c, s, u); known {
				count[want]++
				if got := subtype.Is(env, c, s, u); got != want {
					t.Fatalf("in %v, %v: it is %v that %v <: %v", env, c, got, s, u)
				}
				back, known := naive(env, c, u, s)
				if got := subtype.Equivalent(env, c, s, u); known && got != (want && back) {
					t.Fatalf("in %v, %v: the equivalence of %v and %v is %v", env, c, s, u, got)
				}
			}
		}
	}
	if count[true] < 1000 || count[false] < 500 {
		t.Errorf("%v judgments were decided", count)
	}
}

// recursive returns an environment with some types that are recursive together, and differ in few places.
func recursive(r *rand.Rand) api.Env {
	source := "module a/v1 export type F[+X] >: any <: any = any export type O[+X] <: any = X"
	for k := range 6 {
		var parts []string
		for _, name := range []string{"a", "b"} {
			part := "T" + strconv.Itoa(r.Intn(6))
			switch r.Intn(6) {
			case 0:
				part = []string{"F", "O"}[r.Intn(2)] + "[" + part + "]"
			case 1:
				part = "list[" + part + "]"
			}
			parts = append(parts, name+": "+part)
		}
		if r.Intn(3) == 0 {
			parts = append(parts, "c: "+[]string{"int", "any"}[r.Intn(2)])
		}
		body := "{" + strings.Join(parts, ", ") + "}"
		if r.Intn(5) == 0 {
			body = "fn(" + strings.Join(parts, ", ") + ") T" + strconv.Itoa(r.Intn(6))
		}
		bounds := []string{"", "", " <: " + body, " >: " + body + " <: any"}[r.Intn(4)]
		source += " export type T" + strconv.Itoa(k) + bounds + " = " + body
	}
	return environment(source)
}

// P9.1: random recursive types, which are often assumed to be subtypes of each other until it turns out that they are not.
func TestRandomRecursion(t *testing.T) {
	r := rand.New(rand.NewSource(15))
	count := map[bool]int{}
	for range 300 {
		env := recursive(r)
		name := func() string { return "a::T" + strconv.Itoa(r.Intn(6)) }
		for range 12 {
			s, u := judged([]string{name() + " <: " + name(), "{a: " + name() + ", b: a::F[" + name() + "]} <: {a: " + name() + ", b: a::F[" + name() + "]}", "{a: a::F[" + name() + "], b: " + name() + "} <: {a: a::F[" + name() + "], b: " + name() + "}"}[r.Intn(3)])
			want, known := naive(env, nil, s, u)
			if !known || same(s, u) {
				continue
			}
			count[want]++
			if got := subtype.Is(env, nil, s, u); got != want {
				t.Fatalf("in %v: it is %v that %v <: %v", env, got, s, u)
			}
			back, _ := naive(env, nil, u, s)
			if got := subtype.Equivalent(env, nil, s, u); got != (want && back) {
				t.Fatalf("in %v: the equivalence of %v and %v is %v", env, s, u, got)
			}
		}
	}
	if count[true] < 100 || count[false] < 1000 {
		t.Errorf("%v judgments were decided", count)
	}
}

// randomContext returns a context with random bounds, and a generator of types with its variables.
func randomContext(r *rand.Rand, env api.Env) (generator, api.Context) {
	g := generator{r: r, env: env}
	var c api.Context
	for _, name := range []string{"X", "Y", "Z"} {
		c = append(c, api.Param{Name: name, Bound: g.typed(2)})
		g.variables = append(g.variables, name)
	}
	return g, c
}

// P9.3: random bounds, most of which are not consistent.
func TestRandomBounds(t *testing.T) {
	r := rand.New(rand.NewSource(10))
	count := map[api.Errno]int{}
	for range 300 {
		env := randomEnv(r)
		g := generator{r: r, env: env}
		for range 1 + r.Intn(3) {
			if i := &env[r.Intn(len(env))]; len(i.Types) > 0 {
				e := &i.Types[r.Intn(len(i.Types))]
				before := e.Lower
				if e.Lower = g.moved(e.Lower, r.Intn(2) == 0, 3); r.Intn(2) == 0 {
					e.Lower = g.moved(e.Upper, r.Intn(3) == 0, 3)
				}
				if _, err := wellformed.Env(env); err != api.OK {
					e.Lower = before
				}
			}
		}
		path, name, err := firstBound(t, env)
		count[err]++
		checkValid(t, env, path, name, err)
	}
	if count[api.OK] < 30 || count[api.ErrBound] < 30 {
		t.Errorf("%v environments", count)
	}
}

// firstBound decides which bounds are not consistent as the chapter says it.
func firstBound(t *testing.T, env api.Env) (string, string, api.Errno) {
	for _, i := range env {
		for _, e := range i.Types {
			holds, known := naive(env, e.Params, e.Lower, e.Upper)
			if !known {
				holds = subtype.Is(env, e.Params, e.Lower, e.Upper)
			}
			if !holds {
				return i.Path, e.Name, api.ErrBound
			}
		}
	}
	return "", "", api.OK
}

// P9.4: subtyping is a preorder, in which bounds stand where they should.
func TestConsequences(t *testing.T) {
	r := rand.New(rand.NewSource(11))
	chains := 0
	for range 300 {
		env := randomEnv(r)
		g, c := randomContext(r, env)
		is := func(s, u api.Type) bool { return subtype.Is(env, c, s, u) }
		for range 10 {
			s := g.typed(3)
			u := g.moved(s, true, 4)
			v := g.moved(u, true, 4)
			if !is(s, s) {
				t.Fatalf("in %v: %v is no subtype of itself", env, s)
			}
			if is(s, u) && is(u, v) {
				chains++
				if !is(s, v) {
					t.Fatalf("in %v, %v: %v <: %v <: %v is not transitive", env, c, s, u, v)
				}
			}
			exposed := subtype.Expose(env, c, s)
			if !is(s, exposed) || exposed.Kind == api.TypeVar || exposed.Kind == api.TypeRef || !same(subtype.Expose(env, c, exposed), exposed) {
				t.Fatalf("in %v, %v: %v exposes to %v", env, c, s, exposed)
			}
			if lower, upper, err := environ.Bounds(env, s); err == api.OK && !(is(lower, s) && is(s, upper)) {
				t.Fatalf("in %v: %v does not stand between %v and %v", env, s, lower, upper)
			}
			if is(s, u) && u.Kind >= api.TypeList && u.Kind <= api.TypeFunc && exposed.Kind != api.TypeNone && (exposed.Kind != u.Kind || !is(exposed, u)) {
				t.Fatalf("in %v, %v: %v <: %v, but it exposes to %v", env, c, s, u, exposed)
			}
		}
	}
	if chains < 500 {
		t.Errorf("only %d chains", chains)
	}
}

// P9.4: subtyping is kept if a subtype of its bound stands for a variable, and if its bound becomes a subtype.
func TestConsequencesOfBounds(t *testing.T) {
	r := rand.New(rand.NewSource(12))
	kept := 0
	for range 300 {
		env := randomEnv(r)
		g, c := randomContext(r, env)
		below := g.moved(c[0].Bound, false, 3)
		below = syntax.Substitute(below, g.variables, []api.Type{nothing, nothing, nothing})
		if !subtype.Is(env, nil, below, c[0].Bound) || len(syntax.Free(c[0].Bound)) > 0 {
			continue
		}
		put := func(x api.Type) api.Type { return syntax.Substitute(x, []string{"X"}, []api.Type{below}) }
		var closed api.Context
		for _, param := range c[1:] {
			closed = append(closed, api.Param{Name: param.Name, Bound: put(param.Bound)})
		}
		narrow := append(api.Context{{Name: "X", Bound: below}}, c[1:]...)
		for range 10 {
			s := g.typed(3)
			u := g.moved(s, true, 4)
			if !subtype.Is(env, c, s, u) {
				continue
			}
			kept++
			if !subtype.Is(env, closed, put(s), put(u)) {
				t.Fatalf("in %v, %v: %v <: %v is lost if %v stands for X", env, c, s, u, below)
			}
			if !subtype.Is(env, narrow, s, u) {
				t.Fatalf("in %v, %v: %v <: %v is lost if %v is the bound of X", env, c, s, u, below)
			}
		}
	}
	if kept < 500 {
		t.Errorf("only %d judgments", kept)
	}
}

// P1: decisions end in environments, contexts and for types that have no form, or that unfold to more and more types.
func TestEnds(t *testing.T) {
	grows := func(name string, upper, lower api.Type) api.TypeEntry {
		return api.TypeEntry{Name: name, Params: []api.Param{{Name: "#0"}}, Lower: lower, Upper: upper}
	}
	more := func(name string) api.Type { return reference("a/v1", name, list(variable("#0"))) }
	wide := func(name string) api.Type {
		return reference("a/v1", name, record(api.Field{Name: "a", Type: variable("#0")}, api.Field{Name: "b", Type: variable("#0")}))
	}
	env := api.Env{{Path: "a/v1", Types: []api.TypeEntry{
		grows("N", more("N"), nothing), grows("M", anything, more("M")), grows("In", list(more("In")), list(more("In"))), grows("Out", list(more("Out")), list(more("Out"))), grows("W", wide("W"), wide("W")), grows("V", record(api.Field{Name: "a", Type: wide("V")}), list(wide("V"))),
		{Name: "Self", Lower: reference("a/v1", "Self"), Upper: reference("a/v1", "Self")}, {Name: "Ping", Lower: reference("a/v1", "Pong"), Upper: reference("a/v1", "Pong")}, {Name: "Pong", Lower: reference("a/v1", "Ping"), Upper: reference("a/v1", "Ping")},
	}, Aliases: []api.AliasEntry{{Name: "Loop", Module: "a/v1", Target: "Loop"}}}}
	c := context("X <: Y, Y <: X, Z <: Z, W <: a::N[W]")
	var all []api.Type
	for _, source := range strings.Fields("int X Y Z W A a::N[int] a::M[int] a::In[int] a::Out[text] a::W[int] a::V[int] a::Self a::Ping a::Pong a::Loop a::N a::Self[int] list[a::N[X]] z::N") {
		all = append(all, typed(source))
	}
	all = append(all, api.Type{Kind: api.TypeList}, api.Type{Kind: api.TypeFunc}, api.Type{Kind: 11}, api.Type{Kind: -1, Args: all[:2]}, api.Type{Kind: api.TypeFunc, Args: all[:2]})
	within(t, "a decision without a form", func() {
		for _, s := range all {
			subtype.Expose(env, c, s)
			for _, u := range all {
				subtype.Is(env, c, s, u)
				subtype.Equivalent(env, c, s, u)
			}
		}
		subtype.Valid(env)
	})
	r := rand.New(rand.NewSource(13))
	within(t, "a random decision", func() {
		for range 2000 {
			env := random[api.Env](r, 6)
			for i := range env {
				env[i].Path = []string{"a/v1", "b/v1"}[r.Intn(2)]
			}
			c := random[api.Context](r, 3)
			s, u := random[api.Type](r, 3), random[api.Type](r, 3)
			subtype.Is(env, c, s, u)
			subtype.Equivalent(env, c, s, u)
			subtype.Expose(env, c, s)
			subtype.Valid(env)
		}
	})
}

// everything returns the results of all functions.
func everything(env api.Env, c api.Context, s, u api.Type) []any {
	path, name, err := subtype.Valid(env)
	return []any{subtype.Is(env, c, s, u), subtype.Equivalent(env, c, s, u), subtype.Expose(env, c, s), path, name, err}
}

// P1, P2, P3: the results are the same in several goroutines, and share no memory with the arguments, which stay as they are.
func TestSharedUse(t *testing.T) {
	r := rand.New(rand.NewSource(14))
	for range 100 {
		env := randomEnv(r)
		g, c := randomContext(r, env)
		s := g.typed(3)
		u := g.moved(s, true, 4)
		arguments := []any{env, c, s, u}
		before := []any{duplicate(env), duplicate(c), duplicate(s), duplicate(u)}
		want := everything(env, c, s, u)
		var group sync.WaitGroup
		for range 4 {
			group.Go(func() {
				if !reflect.DeepEqual(everything(env, c, s, u), want) {
					t.Error("another result in a goroutine")
				}
			})
		}
		group.Wait()
		for i, argument := range []any{duplicate(env), duplicate(c), duplicate(s), duplicate(u)} {
			if !reflect.DeepEqual(argument, before[i]) {
				t.Fatal("an argument has changed")
			}
		}
		checkNew(t, "an exposed type", want[2], arguments...)
	}
	shared := list(integer)
	env := api.Env{{Path: "a/v1", Types: []api.TypeEntry{{Name: "N", Params: []api.Param{{Name: "#0"}}, Upper: record(api.Field{Name: "a", Type: variable("#0")}, api.Field{Name: "b", Type: variable("#0")})}}}}
	for _, s := range []api.Type{shared, variable("X"), reference("a/v1", "N", shared)} {
		c := api.Context{{Name: "X", Bound: shared}}
		checkNew(t, "an exposed type", subtype.Expose(env, c, s), env, c, s)
	}
}
