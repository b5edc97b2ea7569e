package parser_test

import (
	"math"
	"math/rand"
	"reflect"
	"regexp"
	"strconv"
	"strings"
	"sync"
	"testing"

	"modcert/api"
	"modcert/lexer"
	"modcert/parser"
	"modcert/syntax"
)

// P5.1: a type of each kind; fields, cases and parameters are sorted.
func TestTypes(t *testing.T) {
	for source, want := range map[string]api.Type{
		"any": anything, "none": nothing, "int": integer, "bool": boolean, "text": text,
		"list[int]": list(integer), "list[list[N]]": list(list(reference("", "N"))),
		"{}": record(), "{a: int}": record(field("a", integer)), "{b: int, a: text}": record(field("a", text), field("b", integer)),
		"{a_: any, a: int, aB: bool, ab: text, a0: none}": record(field("a", integer), field("a0", nothing), field("aB", boolean), field("a_", anything), field("ab", text)),
		"<>": variant(), "<a: int>": variant(field("a", integer)), "<b: int | a: text>": variant(field("a", text), field("b", integer)),
		"<a: <>|b: <c: {}>>":             variant(field("a", variant()), field("b", variant(field("c", record())))),
		"fn() int":                       function(integer),
		"fn(a: int) fn(b?: text) {}":     function(function(record(), optional("b", text)), field("a", integer)),
		"fn(b?: int, c: bool, a: {}) <>": function(variant(), field("a", record()), optional("b", integer), field("c", boolean)),
		"N":                              reference("", "N"), "m::N": reference("m", "N"), "N[int]": reference("", "N", integer), "m :: N [ N, m::M[text] ]": reference("m", "N", reference("", "N"), reference("m", "M", text)),
		"fn(b?: int, a: {}) s::N[text]": function(reference("s", "N", text), field("a", record()), optional("b", integer)),
		"X[Y[Z[int, int], any], none]":  reference("", "X", reference("", "Y", reference("", "Z", integer, integer), anything), nothing),
	} {
		wantType(t, source, want)
	}
}

// P5.1: an expression of each kind; fields, arguments, parameters and arms are sorted with their expressions.
func TestExprs(t *testing.T) {
	one, two, x := number(1), number(2), local("x")
	types := []api.Type{integer}
	inject := func(name string, e api.Expr) api.Expr {
		return api.Expr{Kind: api.ExprInject, Name: name, Kids: []api.Expr{e}}
	}
	formal := func(name string, t api.Type, optional bool) api.Label {
		return api.Label{Name: name, Type: t, Optional: optional}
	}
	for source, want := range map[string]api.Expr{
		"1": one, "\"a\\n\"": {Kind: api.ExprText, Text: "a\n"}, "\"\"": {Kind: api.ExprText}, "true": {Kind: api.ExprBool, Number: 1}, "false": {Kind: api.ExprBool},
		"x": x, "m::x": value("m", "x"), "x[int]": value("", "x", integer), "m::x[int, N[text]]": value("m", "x", integer, reference("", "N", text)),
		"{}": {Kind: api.ExprRecord}, "{b: 1, a: 2}": {Kind: api.ExprRecord, Labels: labels("a b"), Kids: []api.Expr{two, one}},
		"x.a":                        {Kind: api.ExprProject, Name: "a", Kids: []api.Expr{x}},
		"<c: 1>":                     inject("c", one),
		"<c: x < 1>":                 inject("c", operation("<", x, one)),
		"fn() => x":                  {Kind: api.ExprFunc, Kids: []api.Expr{x}},
		"fn(x: int) => 1":            {Kind: api.ExprFunc, Labels: []api.Label{formal("x", integer, false)}, Kids: []api.Expr{one}},
		"fn(b: int = 1, a: {}) => x": {Kind: api.ExprFunc, Labels: []api.Label{formal("a", record(), false), formal("b", integer, true)}, Kids: []api.Expr{one, x}},
		"fn(c: int = 1, b: bool, a: text = 2) => x": {Kind: api.ExprFunc, Labels: []api.Label{formal("a", text, true), formal("b", boolean, false), formal("c", integer, true)}, Kids: []api.Expr{two, one, x}},
		"x()":                               {Kind: api.ExprCall, Kids: []api.Expr{x}},
		"x(b: 1, a: 2)":                     {Kind: api.ExprCall, Labels: labels("a b"), Kids: []api.Expr{x, two, one}},
		"let y = 1 in x":                    {Kind: api.ExprLet, Name: "y", Kids: []api.Expr{one, x}},
		"(x : int)":                         ascribe(x, integer),
		"(let y = 1 in x: int)":             ascribe(api.Expr{Kind: api.ExprLet, Name: "y", Kids: []api.Expr{one, x}}, integer),
		"if[int] x then 1 else 2":           {Kind: api.ExprIf, Types: types, Kids: []api.Expr{x, one, two}},
		"match[int] x {}":                   {Kind: api.ExprMatch, Types: types, Kids: []api.Expr{x}},
		"match[int] x {b y => 1, a x => 2}": {Kind: api.ExprMatch, Types: types, Labels: []api.Label{{Name: "a", Variable: "x"}, {Name: "b", Variable: "y"}}, Kids: []api.Expr{x, two, one}},
		"[int|]":                            {Kind: api.ExprList, Types: types},
		"[int | 2, 1, 2]":                   {Kind: api.ExprList, Types: types, Kids: []api.Expr{two, one, two}},
		"fold[int] y, acc in x from 1 => 2": {Kind: api.ExprFold, Types: types, Name: "y", Text: "acc", Kids: []api.Expr{x, one, two}},
		"not x":                             operation("not", x),
		"length x":                          operation("length", x),
		"((((x))))":                         x,
		"(((x) : int))":                     ascribe(x, integer),
		"((x : int) : text)":                ascribe(ascribe(x, integer), text),
		"x[int](a: 1).b(c: 2)":              {Kind: api.ExprCall, Labels: labels("c"), Kids: []api.Expr{{Kind: api.ExprProject, Name: "b", Kids: []api.Expr{{Kind: api.ExprCall, Labels: labels("a"), Kids: []api.Expr{value("", "x", integer), one}}}}, two}},
		"[<a: int | b: {}>| <b: {}>]":       {Kind: api.ExprList, Types: []api.Type{variant(field("a", integer), field("b", record()))}, Kids: []api.Expr{{Kind: api.ExprInject, Name: "b", Kids: []api.Expr{{Kind: api.ExprRecord}}}}},
		"fn(a: <>= <b: 1>) => <c: <d: 2>>":  {Kind: api.ExprFunc, Labels: []api.Label{formal("a", variant(), true)}, Kids: []api.Expr{inject("b", one), inject("c", inject("d", two))}},
	} {
		wantExpr(t, source, want)
	}
}

// P5.1: all pairs of binary operators group by their levels, and to the left.
func TestLevels(t *testing.T) {
	levels := map[string]int{"or": 1, "and": 2, "==": 4, "===": 4, "<": 4, "+": 5, "-": 5, "++": 5, "*": 6}
	a, b, c := local("a"), local("b"), local("c")
	for first, one := range levels {
		for second, two := range levels {
			source := "a " + first + " b " + second + " c"
			left, right := operation(second, operation(first, a, b), c), operation(first, a, operation(second, b, c))
			switch {
			case one == 4 && two == 4:
				wrong(t, parser.Expr, api.ErrSyntax, "a "+first+" b @"+second+" c")
			case one >= two:
				wantExpr(t, source, left)
			default:
				wantExpr(t, source, right)
			}
			wantExpr(t, "(a "+first+" b) "+second+" c", left)
			wantExpr(t, "((a) "+first+" (b "+second+" (c)))", right)
		}
		wantExpr(t, "length a "+first+" length b", operation(first, operation("length", a), operation("length", b)))
		wantExpr(t, "-1 "+first+" -2", operation(first, number(-1), number(-2)))
		if one < 3 {
			wantExpr(t, "not a "+first+" not b", operation(first, operation("not", a), operation("not", b)))
		} else {
			wantExpr(t, "not a "+first+" b", operation("not", operation(first, a, b)))
			wrong(t, parser.Expr, api.ErrSyntax, "a "+first+" @not b")
		}
		for _, open := range []string{"let x = a in b", "if[int] a then b else c", "match[int] a {}", "fold[int] x, y in a from b => c", "fn() => a"} {
			wrong(t, parser.Expr, api.ErrSyntax, "a "+first+" @"+open)
		}
		wantExpr(t, "fn() => a "+first+" b", api.Expr{Kind: api.ExprFunc, Kids: []api.Expr{operation(first, a, b)}})
		wantExpr(t, "(fn() => a) "+first+" b", operation(first, api.Expr{Kind: api.ExprFunc, Kids: []api.Expr{a}}, b))
		wantExpr(t, "let x = a "+first+" b in b "+first+" c", api.Expr{Kind: api.ExprLet, Name: "x", Kids: []api.Expr{operation(first, a, b), operation(first, b, c)}})
	}
	wantExpr(t, "a - b * c - 1", operation("-", operation("-", a, operation("*", b, c)), number(1)))
	wantExpr(t, "not not length length a.b", operation("not", operation("not", operation("length", operation("length", api.Expr{Kind: api.ExprProject, Name: "b", Kids: []api.Expr{a}})))))
	wantExpr(t, "a - - 1", operation("-", a, number(-1)))
	wantExpr(t, "((a) -1)", operation("-", a, number(1)))
	wantExpr(t, "((a)(b: 1) * 2 : int)", ascribe(operation("*", api.Expr{Kind: api.ExprCall, Labels: labels("b"), Kids: []api.Expr{a, number(1)}}, number(2)), integer))
	wantExpr(t, "(((a : int).x == b : bool) and c)", operation("and", ascribe(operation("==", api.Expr{Kind: api.ExprProject, Name: "x", Kids: []api.Expr{ascribe(a, integer)}}, b), boolean), c))
	wrong(t, parser.Expr, api.ErrSyntax, "((a) @not b)", "((a) @length b)", "((a)(b@))", "((a) @b)", "((a : int@.x))", "((a)) @)", "-1@.x", "-@x", "-@-1", "-@(1)", "length @not a", "a + @not b", "(a @{})", "((1)@")
}

// P5.1: integers, and those that are out of range.
func TestNumbers(t *testing.T) {
	for _, n := range []int{0, 1, 9, 10, 4096, math.MaxInt32, math.MinInt32, math.MaxInt, math.MinInt, -1, -10} {
		source := strconv.Itoa(n)
		wantExpr(t, source, number(n))
		wantExpr(t, "("+source+")", number(n))
		wantExpr(t, "a * "+source, operation("*", local("a"), number(n)))
	}
	wantExpr(t, "-0", number(0))
	wantExpr(t, "- // \n 7", number(-7))
	wantExpr(t, "a -9223372036854775807", operation("-", local("a"), number(math.MaxInt)))
	wrong(t, parser.Expr, api.ErrRange, "@9223372036854775808", "@9999999999999999999", "-@9223372036854775809", "- @9999999999999999999", "a - @9223372036854775808", "a - b - -@9223372036854775809", "{a: @9223372036854775808, a: 1}", "@9223372036854775808 9", "(@9223372036854775808", "f(a: 1, b: [int| 1, @9223372036854775808])")
	wrong(t, parser.Expr, api.ErrSyntax, "1 @9223372036854775808", "@10000000000000000000", "1 + a.@9223372036854775808")
}

// P5.1: declarations of all kinds.
func TestModules(t *testing.T) {
	one := number(1)
	for source, decl := range map[string]api.Decl{
		"type N = int":                                 {Kind: api.DeclType, Name: "N", Lower: integer, Upper: integer, Type: integer},
		"export type N = {b: int, a: N}":               {Kind: api.DeclType, Name: "N", Exported: true, Lower: record(field("a", reference("", "N")), field("b", integer)), Upper: record(field("a", reference("", "N")), field("b", integer)), Type: record(field("a", reference("", "N")), field("b", integer))},
		"type N <: any = int":                          {Kind: api.DeclType, Name: "N", Lower: nothing, Upper: anything, Type: integer},
		"type N <: {} = int":                           {Kind: api.DeclType, Name: "N", Lower: nothing, Upper: record(), Type: integer},
		"type N >: {} = int":                           {Kind: api.DeclType, Name: "N", Lower: record(), Upper: anything, Type: integer},
		"type N >: none <: text = int":                 {Kind: api.DeclType, Name: "N", Lower: nothing, Upper: text, Type: integer},
		"type N >: bool <: text = int":                 {Kind: api.DeclType, Name: "N", Lower: boolean, Upper: text, Type: integer},
		"type N >: int <: int = int":                   {Kind: api.DeclType, Name: "N", Lower: integer, Upper: integer, Type: integer},
		"type N[+A, -B, =C] = A":                       {Kind: api.DeclType, Name: "N", Params: []api.Param{{Name: "A"}, {Name: "B", Variance: api.Contravariant}, {Name: "C", Variance: api.Invariant}}, Lower: reference("", "A"), Upper: reference("", "A"), Type: reference("", "A")},
		"export deprecated \"x\" type N[=A] = list[A]": {Kind: api.DeclType, Name: "N", Exported: true, Deprecated: true, Note: "x", Params: []api.Param{{Name: "A", Variance: api.Invariant}}, Lower: list(reference("", "A")), Upper: list(reference("", "A")), Type: list(reference("", "A"))},
		"let v: int = 1":                               {Kind: api.DeclValue, Name: "v", Type: integer, Expr: one},
		"let v[X]: X = 1":                              {Kind: api.DeclValue, Name: "v", Params: []api.Param{{Name: "X", Bound: anything}}, Type: reference("", "X"), Expr: one},
		"let v[Y <: int, X <: list[Y], Z]: s::X = 1":   {Kind: api.DeclValue, Name: "v", Params: []api.Param{{Name: "Y", Bound: integer}, {Name: "X", Bound: list(reference("", "Y"))}, {Name: "Z", Bound: anything}}, Type: reference("s", "X"), Expr: one},
		"export deprecated \"\" let v: <> = 1":         {Kind: api.DeclValue, Name: "v", Exported: true, Deprecated: true, Type: variant(), Expr: one},
		"use s::a as b":                                {Kind: api.DeclUse, Name: "b", Module: "s", Target: "a"},
		"export deprecated \"\\n\" use s::A as B":      {Kind: api.DeclUse, Name: "B", Exported: true, Deprecated: true, Note: "\n", Module: "s", Target: "A"},
	} {
		imports := []api.Import{{Path: "lib/v1", Alias: "s"}, {Path: "a/b/v0", Alias: "t"}}
		wantModule(t, "module m/v1 "+source, api.Module{Path: "m/v1", Decls: []api.Decl{decl}})
		wantModule(t, "module a2/b/v999\nimport lib/v1 as s\nimport a/b/v0 as t\n"+source, api.Module{Path: "a2/b/v999", Imports: imports, Decls: []api.Decl{decl}})
		other := decl
		other.Name += "2"
		repeated := regexp.MustCompile("(type|let|as) "+decl.Name).ReplaceAllString(source, "${1} "+other.Name)
		wantModule(t, "module m/v1 import lib/v1 as s import a/b/v0 as t "+source+" "+repeated, api.Module{Path: "m/v1", Imports: imports, Decls: []api.Decl{decl, other}})
	}
	wantModule(t, "module m/v1", api.Module{Path: "m/v1"})
	wantModule(t, "module // x\n m / // y\n sub\t/\nv1 import a/v2 as b//", api.Module{Path: "m/sub/v1", Imports: []api.Import{{Path: "a/v2", Alias: "b"}}})
}

// P5.1: the first error in the order of reading.
func TestSyntaxErrors(t *testing.T) {
	wrong(t, parser.Type, api.ErrSyntax, "@", "  // x\n@", "@1", "m@", "m @N", "m::@", "m::@n", "m::@int", "@\"int\"", "int @]", "N[@]", "N[int@", "N[int,@]", "N[int @int]", "list@", "list[@]", "list[int@, int]", "{@", "{a@", "{a:@", "{a: int@", "{a: int,@}", "{a: int@| b: int}", "{a@?: int}", "{@A: int}", "{a: int} @{}",
		"<@", "<a@ int>", "<a: int@, b: int>", "<a: int|@>", "<a@?: int>", "fn@", "fn@ [", "fn(@", "fn()@", "fn()@)", "fn(a@)", "fn(a?@)", "fn(a?@?: int) int", "fn(a: int,@) int", "fn(a: int@| b: int) int", "fn(a: int) @=> int", "@let", "@(int)", "int @N", "N [ int@", "N @::M", "@[int]", "@\"{\"")
	wrong(t, parser.Expr, api.ErrSyntax, "@", "@)", "@N", "@]", "@+ 1", "a @b", "a +@", "a @=> b", "a @= b", "a ==@", "a @: int", "m::@", "m::@N", "m::@1", "m::a@::b", "a[@]", "a[int@", "a[int@| 1]", "a[@1]", "a[int]@[int]", "a.@", "a.@1", "a.@N", "a.b@::c", "a(@1)", "a(b@)", "a(b@ 1)", "a(b: 1@", "a(b: 1,@)", "a(b: 1 @c: 2)",
		"{@1}", "{a@}", "{a@= 1}", "{a: 1@| b: 2}", "{a: 1,@}", "{@A: 1}", "<@>", "<c@>", "<c:@>", "<c: 1@", "<c: 1@| d: 2>", "<c: 1@>:", "[@]", "[int@]", "[int|@", "[int|@,]", "[int| 1@", "[int| 1,@]", "[int| 1@| 2]", "(@", "(@)", "(1@", "(1@,", "(1:@)", "(1: int@", "(1: int@: int)",
		"let@", "let @N = 1 in 2", "let x@: int = 1 in 2", "let x =@ in 1", "let x = 1@", "let x = 1 in@", "if@ 1", "if[@]", "if[int] 1@ else 2", "if[int] 1 then 2@", "if[int] 1 then 2 else@", "match@ x", "match[int] x@", "match[int] x {a@", "match[int] x {a@ =>", "match[int] x {a b@: 1}", "match[int] x {a b => 1,@}", "match[int] x {a b => 1@ c d => 2}",
		"fold@ x", "fold[int] x@ in", "fold[int] x, @X", "fold[int] x, y@ from", "fold[int] x, y in 1@ =>", "fold[int] x, y in 1 from 2@", "fold[int] x, y in 1 from 2 =>@", "fn@", "fn(@1)", "fn(a@)", "fn(a:@ = 1)", "fn(a@?: int) => 1", "fn(a: int =@) => 1", "fn(a: int)@ 1", "fn() => @", "fn()@ int => 1", "not@", "length@", "-@", "true@ false", "@type", "1@ 2", "\"a\"@\"b\"", "1@[int]", "{}@{}", "1@::a")
	wrong(t, parser.Module, api.ErrSyntax, "@", "@import a/v1 as a", "@m/v1", "module@", "module @M/v1", "module m/@", "module m/@ /v1", "module m/@1", "module m/@let/v1", "module m/@V1", "module m/v1/@", "module m/v1 @as", "module m/v1 @1", "module m/v1 @module n/v1", "module m/v1 import@", "module m/v1 import a/v1@", "module m/v1 import a/v1 @a", "module m/v1 import a/v1 as@", "module m/v1 import a/v1 as @A", "module m/v1 import a/v1 as b@::c",
		"module m/v1 let a: int = 1 @import b/v1 as b", "module m/v1 export@", "module m/v1 @deprecated \"\" let a: int = 1", "module m/v1 export @export let a: int = 1", "module m/v1 export deprecated@ let", "module m/v1 export deprecated \"\"@", "module m/v1 export deprecated \"\" @export let", "module m/v1 export @import",
		"module m/v1 type@", "module m/v1 type @n = int", "module m/v1 type N@", "module m/v1 type N @: int", "module m/v1 type N[@]", "module m/v1 type N[@A]", "module m/v1 type N[+@a]", "module m/v1 type N[+A@", "module m/v1 type N[+A@<: int]", "module m/v1 type N[+A,@]", "module m/v1 type N[@++A]", "module m/v1 type N <: int @>: int = int", "module m/v1 type N <: int @<: int = int", "module m/v1 type N >:@ = int", "module m/v1 type N =@", "module m/v1 type N = int@ = int",
		"module m/v1 let@", "module m/v1 let @A: int = 1", "module m/v1 let a@ = 1", "module m/v1 let a[@]", "module m/v1 let a[@x]", "module m/v1 let a[@+A]: int = 1", "module m/v1 let a[A @>: int]", "module m/v1 let a[A <:@]", "module m/v1 let a[A,@]", "module m/v1 let a:@ = 1", "module m/v1 let a: int@", "module m/v1 let a: int =@", "module m/v1 let a: int = 1@ 2", "module m/v1 let a: int = let b = 1@ let c: int = 1",
		"module m/v1 use@", "module m/v1 use @N::a as b", "module m/v1 use s@ as b", "module m/v1 use s::@1 as b", "module m/v1 use s::a@", "module m/v1 use s::a as@", "module m/v1 use s::a as @\"b\"", "module m/v1 use s::a as b@::c", "module m/v1 use a@/v1::a as b", "module m/v1 use s::a@[int] as b")
}

// P5.1: the second of two equal names of one list, before anything behind it.
func TestEqualNames(t *testing.T) {
	wrong(t, parser.Type, api.ErrExists, "{a: int, @a: int}", "{b: int, a: int, c: text, @a", "{a: int, @a 1", "<a: int | b: int | @a: text>", "fn(a: int, @a?: int) int", "fn(a?: int, @a: int) int", "{a: {a: int, b: {b: any, @b: any}}, a: int}", "{a: <b: int | @b: int>, a: int}", "list[N[{x: any, @x: any}, {y: any, y: any}]]", "{a: int, a_: int, @a: int ]")
	wrong(t, parser.Expr, api.ErrExists, "{a: 1, @a: 2}", "f(a: 1, b: 2, @b: 3)", "f(a: 1, @a)", "fn(a: int, @a: int = 1) => 1", "fn(a: int = {b: 1, @b: 2}, a: int) => 1", "match[int] x {a x => 1, b x => 2, @a y => 3}", "match[int] x {a x => 1, @a", "match[{a: int, @a: int}] x {a x => 1, a x => 2}", "f(a: 1).b(c: 1, @c: 2) +", "[int| {a: 1, @a: 2}, 9223372036854775808]", "{a: 1, @a: 9223372036854775808}", "({a: 1, @a: 2}")
	wrong(t, parser.Module, api.ErrExists, "module m/v1 type N = {a: int, @a: int}", "module m/v1 let v[X <: {a: int, @a: int}]: int = {b: 1, b: 2}", "module m/v1 let v: int = 1 let v: int = f(a: 1, @a: 2)")
	wantType(t, "{a: {a: fn(a: <a: int>) int}, b: {a: int}}", record(field("a", record(field("a", function(integer, field("a", variant(field("a", integer))))))), field("b", record(field("a", integer)))))
	wantExpr(t, "match[int] x {a x => 1, b x => 2}", api.Expr{Kind: api.ExprMatch, Types: []api.Type{integer}, Labels: []api.Label{{Name: "a", Variable: "x"}, {Name: "b", Variable: "x"}}, Kids: []api.Expr{local("x"), number(1), number(2)}})
	wantExpr(t, "[int| 1, 1]", api.Expr{Kind: api.ExprList, Types: []api.Type{integer}, Kids: []api.Expr{number(1), number(1)}})
	wantType(t, "N[int, int]", reference("", "N", integer, integer))
	// Both names of a fold, and those of parameters of types, are not names of such a list: their error is that of the tree.
	wrong(t, parser.Expr, api.ErrExists, " fold[int] x, x in 1 from 2 => 3", "1 + length (fold[int] x, x in 1 from 2 => 3)")
	wrong(t, parser.Module, api.ErrExists, "module m/v1 let a: int = 1 @type N[+A, -B, +A] = int", "module m/v1 let b: int = 1 @let a[X, X]: int = 1")
}

// P5.1: a path is the text of its tokens, and the first of them has the error if it is none.
func TestPaths(t *testing.T) {
	for _, path := range []string{"a/v1", "a/b/c/v12", "a1/b2/v0", "v1/v1", strings.Repeat("a/", 31) + "v1"} {
		wantModule(t, "module "+path, api.Module{Path: path})
		wantModule(t, "module\n"+strings.ReplaceAll(path, "/", " /\t")+" ", api.Module{Path: path})
		wantModule(t, "module m/v2 import// /\n"+strings.ReplaceAll(path, "/", "//\n/")+" as s", api.Module{Path: "m/v2", Imports: []api.Import{{Path: path, Alias: "s"}}})
	}
	wrong(t, parser.Module, api.ErrName, "module @a", "module @a import", "module @a 5", "module @a/b", "module  @a / v01", "module @a/v1000", "module @v1", "module @a/v1/b", "module @a_b/v1", "module @aB/v1", "module @a/v", "module @"+strings.Repeat("a/", 32)+"v1", "module @a let 1", "module @a/v1x import", "module @"+strings.Repeat("a/", 1000)+"v1 )",
		"module m/v1 import @a as b", "module m/v1 import @a 1", "module m/v1 import @a", "module m/v1 import a/v1 as a import @b/b as a", "module m/v1 import @m/v1/v as a")
	wrong(t, parser.Module, api.ErrSyntax, "module a/@", "module a/b/@(", "module a/@A", "module m/v1 import a/@ as b")
}

// P5.1: the errors of the lexer come first, with its offsets.
func TestLexerErrors(t *testing.T) {
	wrong(t, parser.Type, api.ErrSyntax, "@$", "{a: int, a: int} @#", "{a: int @01", "int @\"")
	wrong(t, parser.Expr, api.ErrSyntax, "@_", "1 + + @1x", "9223372036854775808 @;", "\"a\" @\"\\t\"", "@00")
	wrong(t, parser.Module, api.ErrSyntax, "module a @%", "@'module'")
	wrong(t, parser.Type, api.ErrName, "@"+strings.Repeat("A", 33), "int int @"+strings.Repeat("a", 33))
	wrong(t, parser.Expr, api.ErrName, ") @"+strings.Repeat("a", 33))
	wrong(t, parser.Module, api.ErrName, "module a @"+strings.Repeat("a", 33)+"/v1")
	blanks := strings.Repeat(" ", api.MaxSource)
	wrong(t, parser.Type, api.ErrTooLarge, "int"+blanks, "{a"+blanks+"#")
	wrong(t, parser.Expr, api.ErrTooLarge, "1"+blanks, "\""+blanks)
	wrong(t, parser.Module, api.ErrTooLarge, "module m/v1"+blanks, blanks+" ")
	wantType(t, "int"+blanks[3:], integer)
	wantExpr(t, blanks[1:]+"1", number(1))
	wantModule(t, "module m/v1"+blanks[11:], api.Module{Path: "m/v1"})
	wantExpr(t, lexer.Quote(strings.Repeat("a", api.MaxSource-2)), api.Expr{Kind: api.ExprText, Text: strings.Repeat("a", api.MaxSource-2)})
}

// repeated returns a source with a number of elements, which have names f0, f1 and so on in front of them.
func repeated(begin, element, separator, end string, count int) string {
	var all []string
	for i := range count {
		all = append(all, strings.ReplaceAll(element, "#", strconv.Itoa(i)))
	}
	return begin + strings.Join(all, separator) + end
}

// P5.1: what follows the grammar, but has not the form of a tree.
func TestErrorsOfTrees(t *testing.T) {
	for count, want := range map[int]api.Errno{api.MaxFields: api.OK, api.MaxFields + 1: api.ErrTooLarge} {
		for _, source := range []string{repeated("{", "f#: int", ", ", "}", count), repeated("<", "f#: int", " | ", ">", count), repeated("fn(", "f#: int", ", ", ") int", count)} {
			if _, at, err := parser.Type(" " + source); err != want || at != 0 {
				t.Errorf("%.50q has the error %d at %d", source, err, at)
			}
		}
		for _, source := range []string{repeated("{", "f#: 1", ", ", "}", count), repeated("x(", "f#: 1", ", ", ")", count), repeated("fn(", "f#: int = 1", ", ", ") => 1", count), repeated("match[int] x {", "f# a => 1", ", ", "}", count)} {
			if _, at, err := parser.Expr(" (" + source + ")"); err != want || at != 0 {
				t.Errorf("%.50q has the error %d at %d", source, err, at)
			}
		}
	}
	deep := strings.Repeat("list[", api.MaxDepth-1) + "int" + strings.Repeat("]", api.MaxDepth-1)
	wide := strings.Repeat("x + ", api.MaxDepth-1) + "x"
	for _, good := range []string{deep, repeated("N[", "T#", ", ", "]", api.MaxParams)} {
		if _, at, err := parser.Type(good); err != api.OK || at != 0 {
			t.Errorf("%q has the error %d at %d", good, err, at)
		}
	}
	for _, good := range []string{wide, repeated("[int|", "1", ",", "]", api.MaxNodes-2), repeated("x[", "T#", ",", "]", api.MaxParams), strings.Repeat("not ", api.MaxDepth-1) + "1"} {
		if _, at, err := parser.Expr(good); err != api.OK || at != 0 {
			t.Errorf("%.100q has the error %d at %d", good, err, at)
		}
	}
	wrong(t, parser.Type, api.ErrTooLarge, " list["+deep+"]", repeated(" N[", "T#", ", ", "]", api.MaxParams+1), repeated(" N[", "{a: T#}", ", ", "]", 3000))
	wrong(t, parser.Expr, api.ErrTooLarge, " x + "+wide, repeated("[int|", "1", ",", "]", api.MaxNodes-1), repeated("x[", "T#", ",", "]", api.MaxParams+1), strings.Repeat("not ", api.MaxDepth)+"1", "(1 : list["+deep+"])")
	first := "module m/v1 import a/v1 as a import b/v1 as b type T = int "
	wrong(t, parser.Module, api.ErrTooLarge, first+"@export type N = list["+deep+"]", first+"@let v: int = x + "+wide, first+"let v: int = 1 @export deprecated \"\" let w[X <: list["+deep+"]]: int = 1", first+repeated("@type N[", "+A#", ", ", "] = int", api.MaxParams+1), first+repeated("@let v[", "A#", ", ", "]: int = 1", api.MaxParams+1),
		" "+first+repeated("let v: list[int] = [int|", "1", ",", "]", api.MaxNodes-9), first+repeated("", "let v#: int = 1", " ", "", api.MaxDecls), repeated("module m/v1 ", "import a#/v1 as a#", " ", "", api.MaxImports+1))
	wrong(t, parser.Module, api.ErrExists, first+"@type T = int", first+"let a: int = 1 @export let a: int = 1", first+"use a::b as b @export deprecated \"\" use b::a as b", first+"@let v: int = fold[int] x, x in 1 from 2 => 3", "module m/v1 import a/v1 as a import a/v1 as b", " module m/v1 import a/v1 as a import b/v1 as a")
	wrong(t, parser.Module, api.ErrLoop, " module m/v1 import m/v1 as a", "module m/v1 import a/v1 as a import m/v1 as a")
	wrong(t, parser.Module, api.ErrName, first+"@use a::A as b", first+"@export use a::a as B", first+"let c: int = 1\n\n@use a::B as b type T = int")
	// The error of a token comes before that of the tree.
	wrong(t, parser.Module, api.ErrSyntax, "module m/v1 import m/v1 as a type@", first+"type T = int @(")
	for count, want := range map[int]api.Errno{api.MaxDecls - 1: api.OK, api.MaxDecls: api.ErrTooLarge} {
		if _, at, err := parser.Module(first + repeated("", "let v#: int = 1", " ", "", count)); err != want || at != 0 {
			t.Errorf("%d more declarations have the error %d at %d", count, err, at)
		}
	}
}

// P5.1, P5.2: random trees are read from sources in which order, blanks, comments and parentheses are any that stand for them.
func TestRandomTrees(t *testing.T) {
	choose := random(2)
	sizes := 0
	for range 2500 {
		typ, expr, module := choose.Type(5), choose.Expr(5), choose.Module(3)
		for range 2 {
			l := &loose{choose: choose}
			if l.typ(typ); syntax.CheckType(typ) == api.OK {
				wantType(t, l.source(), typ)
			}
			l = &loose{choose: choose}
			if l.expr(expr); syntax.CheckExpr(expr) == api.OK && len(l.source()) < api.MaxSource/2 {
				sizes += syntax.ExprSize(expr)
				wantExpr(t, l.source(), expr)
			}
			l = &loose{choose: choose}
			if l.module(module); len(l.source()) < api.MaxSource/2 {
				_, err := syntax.CheckModule(module)
				if err != api.OK {
					t.Fatalf("%v has the error %d", module, err)
				}
				wantModule(t, l.source(), module)
			}
		}
		if t.Failed() {
			return
		}
	}
	if sizes < 50000 {
		t.Errorf("the expressions have only %d nodes", sizes)
	}
}

// P5.2: blanks and comments matter for offsets alone.
func TestBlanks(t *testing.T) {
	choose := random(3)
	for _, x := range entries() {
		for range 1000 {
			l := &loose{choose: choose, tokens: damaged(choose, looseTokens(choose, x.rule))}
			one, two := strings.Join(l.tokens, " "), l.source()
			at, err := x.parse(one)
			otherAt, otherErr := x.parse(two)
			if err != otherErr {
				t.Fatalf("%q has the error %d, %q the error %d", one, err, two, otherErr)
			}
			tokens, others := lexed(t, one), lexed(t, two)
			for i := range tokens {
				if at > 0 && tokens[i].Offset == at && others[i].Offset != otherAt {
					t.Fatalf("%q has the error %d at %d, %q at %d", one, err, at, two, otherAt)
				}
			}
		}
	}
}

// plain checks that a tree has no variables, no paths in types and expressions, and no values with neither a module nor types, and that its lists share no memory.
func plain(t *testing.T, source string, tree any) {
	t.Helper()
	nodes(reflect.ValueOf(tree), func(node any) {
		switch x := node.(type) {
		case api.Type:
			if x.Kind == api.TypeVar || lexer.IsPath(x.Module) {
				t.Errorf("%q has the type %v", source, x)
			}
		case api.Expr:
			if lexer.IsPath(x.Module) || x.Kind == api.ExprValue && x.Module == "" && len(x.Types) == 0 {
				t.Errorf("%q has the expression %v", source, x)
			}
		case api.Decl:
			if lexer.IsPath(x.Module) {
				t.Errorf("%q has the facade %v", source, x)
			}
		}
	})
	if !memory(reflect.ValueOf(tree), map[uintptr]bool{}) {
		t.Errorf("two lists of the tree of %q share memory", source)
	}
}

// P5.2, P3: trees have their form, no matter how they were written; and they share no memory.
func TestForms(t *testing.T) {
	choose := random(4)
	for range 2000 {
		source := strings.Join(damaged(choose, looseTokens(choose, "type")), " ")
		if tree, _, err := parser.Type(source); err == api.OK {
			plain(t, source, tree)
			if syntax.CheckType(tree) != api.OK {
				t.Errorf("%q has another form", source)
			}
			// P5.2: the source of a type in parentheses behind : is read as this type.
			wantExpr(t, "(0 :"+source+"\n)", ascribe(number(0), tree))
		}
		source = strings.Join(damaged(choose, looseTokens(choose, "expr")), " ")
		if tree, _, err := parser.Expr(source); err == api.OK {
			plain(t, source, tree)
			if syntax.CheckExpr(tree) != api.OK {
				t.Errorf("%q has another form", source)
			}
			wantExpr(t, "("+source+"\n)", tree)
		}
		source = strings.Join(damaged(choose, looseTokens(choose, "module")), " ")
		if tree, _, err := parser.Module(source); err == api.OK {
			plain(t, source, tree)
			if _, err := syntax.CheckModule(tree); err != api.OK {
				t.Errorf("%q has another form", source)
			}
		}
	}
	source := "module m/v1 type N = fn(a: list[N], b?: {c: N}) list[N]"
	tree, _, _ := parser.Module(source)
	plain(t, source, tree)
	tree.Decls[0].Type.Fields[0].Name = "z"
	if tree.Decls[0].Lower.Fields[0].Name != "a" || tree.Decls[0].Upper.Fields[0].Name != "a" {
		t.Error("the bounds of a transparent type change with its definition")
	}
}

// P1: sources that go as deep as they can, closed and not closed.
func TestDeepSources(t *testing.T) {
	for _, x := range []struct{ open, middle, close string }{
		{"(", "1", ")"}, {"{a:", "1", "}"}, {"(1+", "1", ")"}, {"1+(", "1", ")"}, {"not(", "1", ")"}, {"not ", "1", ""}, {"length ", "1", ""}, {"-", "1", ""}, {"<a:(", "1", ")>"}, {"[A|", "1", "]"}, {"a(b:", "1", ")"},
		{"fn()=>", "1", ""}, {"let a=", "1", " in 1"}, {"let a=1 in ", "1", ""}, {"if[A]", "1", " then 1 else 1"}, {"fold[A]a,b in ", "1", " from 1=>1"}, {"match[A]", "1", "{}"}, {"(", "1", ":A)"}, {"(", "1", ".a)"}, {"((", "1", ")*2)"}, {"a+", "1", ""}, {"a.", "b", ""}, {"(1:list[", "A", "])"}, {"", "f", "()"}, {"", "f", ".a"},
	} {
		unit := len(x.open) + len(x.close)
		for _, count := range []int{(api.MaxSource - 1) / unit, 1000} {
			source := strings.Repeat(x.open, count) + x.middle + strings.Repeat(x.close, count)
			_, at, err := parser.Expr(source)
			parens := x.open == "(" && x.close == ")"
			if parens && err != api.OK || at != 0 && err == api.OK || !parens && err == api.OK {
				t.Errorf("%d times %q has the error %d at %d", count, x.open, err, at)
			}
		}
		wrongEnd := strings.Repeat(x.open, api.MaxSource/max(len(x.open), 1))
		if _, _, err := parser.Expr(wrongEnd[:min(len(wrongEnd), api.MaxSource)]); err != api.ErrSyntax {
			t.Errorf("%q alone has the error %d", x.open, err)
		}
	}
	for _, x := range []struct{ open, middle, close string }{{"list[", "int", "]"}, {"{a:", "int", "}"}, {"<a:", "int", ">"}, {"A[", "int", "]"}, {"fn()", "int", ""}, {"fn(a:", "int", ")int"}} {
		count := (api.MaxSource - 3) / (len(x.open) + len(x.close))
		if _, at, err := parser.Type(strings.Repeat(x.open, count) + x.middle + strings.Repeat(x.close, count)); err != api.ErrTooLarge || at != 0 {
			t.Errorf("%q has the error %d at %d", x.open, err, at)
		}
		if _, at, err := parser.Type(strings.Repeat(x.open, api.MaxSource/len(x.open))); err != api.ErrSyntax || at == 0 {
			t.Errorf("%q alone has the error %d at %d", x.open, err, at)
		}
		front := "module m/v1 type A = "
		count -= len(front)
		if _, at, err := parser.Module(front + strings.Repeat(x.open, count) + x.middle + strings.Repeat(x.close, count)); err != api.ErrTooLarge || at != 0 {
			t.Errorf("%q in a module has the error %d at %d", x.open, err, at)
		}
	}
}

// P1, P2: any sources, twice.
func TestAnySources(t *testing.T) {
	r := rand.New(rand.NewSource(5))
	pieces := strings.Fields("module m / v1 import as a b s :: export deprecated \"\" \"x\" type N M let x y use : = => == === + - ++ * < <: > >: ( ) [ ] { } , | . ? 1 0 int text any none list fn if then else match fold in from not and or length true false $ 01 \"")
	for range 20000 {
		var source []byte
		for range r.Intn(30) {
			if r.Intn(20) == 0 {
				source = append(source, byte(r.Intn(256)))
				continue
			}
			source = append(source, pieces[r.Intn(len(pieces))]+" "...)
		}
		for _, x := range entries() {
			at, err := x.parse(string(source))
			if again, e := x.parse(string(source)); again != at || e != err || at < 0 || at > len(source) || err == api.OK && at != 0 {
				t.Fatalf("%q has the error %d at %d", source, err, at)
			}
		}
	}
}

// P2, P3: goroutines get the same results, and no result changes with another one.
func TestSharedUse(t *testing.T) {
	source := "module m/v1 import a/v1 as s export type N[+A] = {b: list[A], a: fn(x?: N[A]) s::M} let v: N[int] = {b: [int| 1, 2], a: fn(x: N[int] = v[int]) => s::f(b: 1, a: 2)}"
	want, _, err := parser.Module(source)
	if err != api.OK {
		t.Fatal(err)
	}
	var all sync.WaitGroup
	for range 8 {
		all.Add(1)
		go func() {
			defer all.Done()
			for range 50 {
				got, at, err := parser.Module(source)
				if !syntax.EqualModules(got, want) || at != 0 || err != api.OK {
					t.Error("another result in a goroutine")
				}
				clear(got.Decls[1].Expr.Kids)
				clear(got.Decls[0].Type.Fields)
				if _, at, err := parser.Module(source + ")"); at != len(source) || err != api.ErrSyntax {
					t.Error("another error in a goroutine")
				}
			}
		}()
	}
	all.Wait()
}
