package printer_test

import (
	"math"
	"slices"
	"strconv"
	"strings"
	"sync"
	"testing"

	"modcert/api"
	"modcert/lexer"
	"modcert/parser"
	"modcert/printer"
	"modcert/syntax"
)

// P6.1: the source of a type of each kind.
func TestTypes(t *testing.T) {
	for want, tree := range map[string]api.Type{
		"any": anything, "none": nothing, "int": integer, "bool": boolean, "text": text, "list[int]": list(integer), "list[list[N]]": list(list(reference("", "N"))),
		"{}": record(), "{a: int}": record(field("a", integer)), "{a: int, b: {}}": record(field("a", integer), field("b", record())),
		"<>": variant(), "<a: int>": variant(field("a", integer)), "<a: int | b: <> | c: <d: {}>>": variant(field("a", integer), field("b", variant()), field("c", variant(field("d", record())))),
		"fn() int": function(integer), "fn(a: int, b?: text) fn(c?: <>) {}": function(function(record(), optional("c", variant())), field("a", integer), optional("b", text)),
		"N": reference("", "N"), "m::N": reference("m", "N"), "N[int]": reference("", "N", integer), "m::N[N[A], {a: s::B}]": reference("m", "N", reference("", "N", reference("", "A")), record(field("a", reference("s", "B")))),
	} {
		wantType(t, want, tree)
	}
}

// P6.1: the source of an expression of each kind.
func TestExprs(t *testing.T) {
	x, one, types := local("x"), number(1), []api.Type{integer}
	function := node(api.ExprFunc, "", nil, "a b c", one, x, number(2))
	function.Labels[0].Type, function.Labels[0].Optional = text, true
	function.Labels[1].Type = variant()
	function.Labels[2].Type, function.Labels[2].Optional = list(integer), true
	match := node(api.ExprMatch, "", types, "a b", x, one, local("y"))
	match.Labels[0].Variable, match.Labels[1].Variable = "x", "y"
	fold := node(api.ExprFold, "x", types, "", x, one, local("y"))
	fold.Text = "acc"
	let := node(api.ExprLet, "y", nil, "", one, x)
	for want, tree := range map[string]api.Expr{
		"0": number(0), "7": number(7), "-7": number(-7), "9223372036854775807": number(math.MaxInt), "-9223372036854775808": number(math.MinInt),
		`""`: literal(""), `"a\"\\\n\x00\xff~"`: literal("a\"\\\n\x00\xff~"), "true": {Kind: api.ExprBool, Number: 1}, "false": {Kind: api.ExprBool},
		"x": x, "m::x": value("m", "x"), "x[int]": value("", "x", integer), "m::x[int, list[N]]": value("m", "x", integer, list(reference("", "N"))),
		"{}": node(api.ExprRecord, "", nil, ""), "{a: 1, b: {c: x}}": node(api.ExprRecord, "", nil, "a b", one, node(api.ExprRecord, "", nil, "c", x)),
		"x.a": node(api.ExprProject, "a", nil, "", x), "<c: 1>": node(api.ExprInject, "c", nil, "", one), "<c: x < 1>": node(api.ExprInject, "c", nil, "", operation("<", x, one)), "<c: <d: x>>": node(api.ExprInject, "c", nil, "", node(api.ExprInject, "d", nil, "", x)),
		"fn() => x": node(api.ExprFunc, "", nil, "", x), "fn(a: text = 1, b: <>, c: list[int] = x) => 2": function,
		"x()": node(api.ExprCall, "", nil, "", x), "x(a: 1, b: let y = 1 in x)": node(api.ExprCall, "", nil, "a b", x, one, let), "x(a: 1).b()": node(api.ExprCall, "", nil, "", node(api.ExprProject, "b", nil, "", node(api.ExprCall, "", nil, "a", x, one))),
		"let y = 1 in x": let, "let z = let y = 1 in x in let y = 1 in x": node(api.ExprLet, "z", nil, "", let, let), "(x : int)": ascribe(x, integer), "(let y = 1 in x : <>)": ascribe(let, variant()), "((x : int) : text)": ascribe(ascribe(x, integer), text),
		"if[int] x then 1 else 2": node(api.ExprIf, "", types, "", x, one, number(2)), "match[int] x {a x => 1, b y => y}": match, "match[int] x {}": node(api.ExprMatch, "", types, "", x), "fold[int] x, acc in x from 1 => y": fold,
		"[int|]": node(api.ExprList, "", types, ""), "[int| 1]": node(api.ExprList, "", types, "", one), "[int| 1, x, let y = 1 in x]": node(api.ExprList, "", types, "", one, x, let),
		"not x": operation("not", x), "length x": operation("length", x), "not not x": operation("not", operation("not", x)), "length length x": operation("length", operation("length", x)), "length -1": operation("length", number(-1)), "not length x": operation("not", operation("length", x)),
		"length (not x)": operation("length", operation("not", x)), "(-1).a": node(api.ExprProject, "a", nil, "", number(-1)), "1.a": node(api.ExprProject, "a", nil, "", one), "(-1)()": node(api.ExprCall, "", nil, "", number(-1)), "(length x)()": node(api.ExprCall, "", nil, "", operation("length", x)), "length x()": operation("length", node(api.ExprCall, "", nil, "", x)),
		"(let y = 1 in x).a": node(api.ExprProject, "a", nil, "", let), "(fn() => x)()": node(api.ExprCall, "", nil, "", node(api.ExprFunc, "", nil, "", x)), "(x : int)(a: 1)": node(api.ExprCall, "", nil, "a", ascribe(x, integer), one),
		"match[int] let y = 1 in x {}": node(api.ExprMatch, "", types, "", let), "if[int] let y = 1 in x then let y = 1 in x else let y = 1 in x": node(api.ExprIf, "", types, "", let, let, let),
	} {
		wantExpr(t, want, tree)
	}
}

// kinds are expressions that begin with keywords, and with them their sources.
func openExprs() map[string]api.Expr {
	fold := node(api.ExprFold, "x", []api.Type{integer}, "", local("a"), local("b"), local("c"))
	fold.Text = "y"
	return map[string]api.Expr{
		"let x = a in b": node(api.ExprLet, "x", nil, "", local("a"), local("b")), "if[int] a then b else c": node(api.ExprIf, "", []api.Type{integer}, "", local("a"), local("b"), local("c")),
		"match[int] a {}": node(api.ExprMatch, "", []api.Type{integer}, "", local("a")), "fold[int] x, y in a from b => c": fold, "fn() => a": node(api.ExprFunc, "", nil, "", local("a")),
	}
}

// P6.1: all pairs of operators stand in parentheses exactly where their levels ask for it.
func TestLevels(t *testing.T) {
	levels := map[string]int{"or": 1, "and": 2, "not": 3, "==": 4, "===": 4, "<": 4, "+": 5, "-": 5, "++": 5, "*": 6, "length": 7}
	a, b, c := local("a"), local("b"), local("c")
	in := func(parentheses bool, s string) string {
		if parentheses {
			return "(" + s + ")"
		}
		return s
	}
	for first, one := range levels {
		unary := one == 3 || one == 7
		least := one // of the left operand
		if one == 4 {
			least = 5
		}
		for second, two := range levels {
			inner, source := operation(second, a, b), "a "+second+" b"
			if two == 3 || two == 7 {
				inner, source = operation(second, a), second+" a"
			}
			if unary {
				wantExpr(t, first+" "+in(two < one, source), operation(first, inner))
				continue
			}
			wantExpr(t, in(two < least, source)+" "+first+" c", operation(first, inner, c))
			wantExpr(t, "c "+first+" "+in(two <= one, source), operation(first, c, inner))
		}
		for source, open := range openExprs() {
			if unary {
				wantExpr(t, first+" ("+source+")", operation(first, open))
				continue
			}
			wantExpr(t, "("+source+") "+first+" ("+source+")", operation(first, open, open))
		}
		if !unary {
			wantExpr(t, "-1 "+first+" -2", operation(first, number(-1), number(-2)))
			wantExpr(t, "(a "+first+" b).x", node(api.ExprProject, "x", nil, "", operation(first, a, b)))
			wantExpr(t, "(a "+first+" b)(x: a "+first+" b)", node(api.ExprCall, "", nil, "x", operation(first, a, b), operation(first, a, b)))
			wantExpr(t, "a.x "+first+" a()", operation(first, node(api.ExprProject, "x", nil, "", a), node(api.ExprCall, "", nil, "", a)))
		}
	}
	wantExpr(t, "a - b - (c - 1)", operation("-", operation("-", a, b), operation("-", c, number(1))))
	wantExpr(t, "a - -1", operation("-", a, number(-1)))
}

// P6.1: the source of declarations of all kinds.
func TestModules(t *testing.T) {
	bounds := func(lower, upper, t api.Type) api.Module { return module(typeDecl(lower, upper, t)) }
	for want, tree := range map[string]api.Module{
		"":               module(),
		"type N = int\n": bounds(integer, integer, integer), "type N = any\n": bounds(anything, anything, anything), "type N = none\n": bounds(nothing, nothing, nothing), "type N = {a: N}\n": bounds(record(field("a", reference("", "N"))), record(field("a", reference("", "N"))), record(field("a", reference("", "N")))),
		"type N <: any = int\n": bounds(nothing, anything, integer), "type N <: any = any\n": bounds(nothing, anything, anything), "type N <: any = none\n": bounds(nothing, anything, nothing), "type N <: {} = int\n": bounds(nothing, record(), integer), "type N <: int = int\n": bounds(nothing, integer, integer), "type N <: none = int\n": bounds(nothing, nothing, integer),
		"type N >: int = int\n": bounds(integer, anything, integer), "type N >: any = int\n": bounds(anything, anything, integer), "type N >: <> <: {} = int\n": bounds(variant(), record(), integer), "type N >: int <: int = text\n": bounds(integer, integer, text), "type N >: int <: none = int\n": bounds(integer, nothing, integer), "type N >: any <: none = int\n": bounds(anything, nothing, integer),
		"let v: int = 1\n": module(valueDecl(integer, number(1))), "let v: <> = let x = 1 in x\n": module(valueDecl(variant(), node(api.ExprLet, "x", nil, "", number(1), local("x")))),
		"let v[X]: X = 1\n": module(valueDecl(reference("", "X"), number(1), api.Param{Name: "X"})), "let v[Y <: none, X <: list[Y], Z]: s::X = 1\n": module(valueDecl(reference("s", "X"), number(1), api.Param{Name: "Y", Bound: nothing}, api.Param{Name: "X", Bound: list(reference("", "Y"))}, api.Param{Name: "Z"})),
		"use s::a as b\n": module(api.Decl{Kind: api.DeclUse, Name: "b", Module: "s", Target: "a"}), "use s::A as B\nlet v: int = -1\n": module(api.Decl{Kind: api.DeclUse, Name: "B", Module: "s", Target: "A"}, valueDecl(integer, number(-1))),
	} {
		wantModule(t, "module m/v1\n"+want, tree)
		other := tree
		other.Path, other.Imports = "geo/x/v12", []api.Import{{Path: "lib/v0", Alias: "s"}, {Path: "a/b/v1", Alias: "a"}}
		wantModule(t, "module geo/x/v12\nimport lib/v0 as s\nimport a/b/v1 as a\n"+want, other)
		if len(tree.Decls) == 0 {
			continue
		}
		other.Decls = slices.Clone(tree.Decls)
		other.Decls[0].Exported = true
		wantModule(t, "module geo/x/v12\nimport lib/v0 as s\nimport a/b/v1 as a\nexport "+want, other)
		other.Decls[0].Deprecated = true
		wantModule(t, "module geo/x/v12\nimport lib/v0 as s\nimport a/b/v1 as a\nexport deprecated \"\" "+want, other)
		other.Decls[0].Note = "use \"w\"\n"
		wantModule(t, "module geo/x/v12\nimport lib/v0 as s\nimport a/b/v1 as a\nexport deprecated \"use \\\"w\\\"\\n\" "+want, other)
	}
	params := typeDecl(integer, integer, integer)
	params.Params = []api.Param{{Name: "A"}, {Name: "B", Variance: api.Contravariant}, {Name: "C", Variance: api.Invariant}}
	wantModule(t, "module m/v1\ntype N[+A, -B, =C] = int\n", module(params))
	params.Params, params.Lower = params.Params[2:], nothing
	wantModule(t, "module m/v1\ntype N[=C] <: int = int\n", module(params))
}

// P6.1: the errors of the form of trees come first.
func TestErrorsOfTrees(t *testing.T) {
	deep := integer
	for range api.MaxDepth {
		deep = list(deep)
	}
	variables := variable("A")
	wrong(t, printer.Type, api.ErrArg, api.Type{Kind: 11}, api.Type{Kind: -1}, record(field("b", integer), field("a", integer)), record(field("a", variables), optional("b", integer)))
	wrong(t, printer.Type, api.ErrTooLarge, deep, list(deep), reference("a/v1", "A", make([]api.Type, api.MaxParams+1)...))
	wrong(t, printer.Type, api.ErrName, reference("", "a"), reference("M", "A"), variable("a"), record(field("a", variables), field("let", integer)))
	wrong(t, printer.Type, api.ErrExists, record(field("a", variables), field("a", integer)))
	wrong(t, printer.Expr, api.ErrArg, api.Expr{Kind: 17}, operation("/", number(1), number(1)), operation("not"), api.Expr{Kind: api.ExprBool, Number: 2}, ascribe(value("", "a"), api.Type{Kind: -1}))
	wrong(t, printer.Expr, api.ErrTooLarge, literal(strings.Repeat("a", api.MaxText+1)), ascribe(value("", "a"), deep))
	wrong(t, printer.Expr, api.ErrName, local("A"), value("", "A"), operation("+", value("", "a"), local("in")))
	wrong(t, printer.Expr, api.ErrExists, node(api.ExprRecord, "", nil, "a a", value("", "a"), number(1)))
	wrong(t, printer.Module, api.ErrName, api.Module{}, api.Module{Path: "m"}, module(valueDecl(variables, local("let"))))
	wrong(t, printer.Module, api.ErrLoop, api.Module{Path: "m/v1", Imports: []api.Import{{Path: "m/v1", Alias: "m"}}})
	wrong(t, printer.Module, api.ErrExists, module(valueDecl(variables, value("", "a")), valueDecl(integer, number(1))))
	wrong(t, printer.Module, api.ErrTooLarge, module(make([]api.Decl, api.MaxDecls+1)...), module(valueDecl(deep, number(1))))
	wrong(t, printer.Module, api.ErrArg, module(api.Decl{Kind: 3}), module(typeDecl(variables, integer, integer), api.Decl{Kind: -1}))
}

// P6.1: variables, paths of modules, and values with neither a module nor types have no source, wherever they stand.
func TestNoSource(t *testing.T) {
	choose := random(1)
	inType := func(bad api.Type) []api.Type {
		return []api.Type{bad, list(bad), record(field("a", integer), field("b", bad)), variant(field("a", bad)), function(bad), function(integer, optional("a", bad)), reference("m", "N", integer, bad), list(record(field("a", function(list(bad)))))}
	}
	inExpr := func(bad api.Expr) []api.Expr {
		list := []api.Expr{bad}
		for range 40 {
			// An expression in which a number becomes the bad one.
			e, found := choose.Expr(4), false
			e = replaced(e, func(x api.Expr) (api.Expr, bool) {
				if found || x.Kind != api.ExprInt {
					return x, false
				}
				found = true
				return bad, true
			})
			if found {
				list = append(list, e)
			}
		}
		return list
	}
	bad := []api.Expr{value("", "a"), value("a/v1", "a"), value("a/v1", "a", integer)}
	for _, x := range []api.Type{variable("A"), variable("#0"), reference("a/v1", "A"), reference("a/b/v0", "A", integer)} {
		for _, y := range inType(x) {
			wrong(t, printer.Type, api.ErrArg, y)
			function := node(api.ExprFunc, "", nil, "a b", number(1))
			function.Labels[1].Type = y
			bad = append(bad, value("m", "a", integer, y), function, ascribe(number(1), y), node(api.ExprIf, "", []api.Type{y}, "", number(1), number(1), number(1)), node(api.ExprList, "", []api.Type{y}, ""))
			wrong(t, printer.Module, api.ErrArg, module(typeDecl(y, integer, integer)), module(typeDecl(integer, y, integer)), module(typeDecl(integer, integer, y)), module(typeDecl(y, y, y)), module(valueDecl(y, number(1))), module(valueDecl(integer, number(1), api.Param{Name: "X"}, api.Param{Name: "Y", Bound: y})))
		}
	}
	for _, x := range bad {
		for _, y := range inExpr(x) {
			if syntax.CheckExpr(y) == api.OK {
				wrong(t, printer.Expr, api.ErrArg, y)
				wrong(t, printer.Module, api.ErrArg, module(typeDecl(integer, integer, integer), valueDecl(integer, y)))
			}
		}
	}
	wrong(t, printer.Module, api.ErrArg, module(api.Decl{Kind: api.DeclUse, Name: "a", Module: "a/v1", Target: "a"}), module(valueDecl(integer, number(1)), api.Decl{Kind: api.DeclUse, Name: "A", Module: "m/v1", Target: "A"}))
	// This error comes before the one of a source that is too large.
	long := literal(strings.Repeat("\n", api.MaxText))
	wrong(t, printer.Expr, api.ErrArg, operation("++", long, value("", "a")), operation("++", value("a/v1", "a"), long))
	wrong(t, printer.Module, api.ErrArg, module(valueDecl(integer, long), typeDecl(integer, integer, variable("A"))))
}

// replaced returns an expression in which a function replaces parts.
func replaced(e api.Expr, replace func(x api.Expr) (api.Expr, bool)) api.Expr {
	if other, ok := replace(e); ok {
		return other
	}
	e.Kids = slices.Clone(e.Kids)
	for i, kid := range e.Kids {
		e.Kids[i] = replaced(kid, replace)
	}
	return e
}

// P6.1: sources of MaxSource bytes, and of one more.
func TestTooLarge(t *testing.T) {
	for size, want := range map[int]api.Errno{api.MaxSource: api.OK, api.MaxSource + 1: api.ErrTooLarge} {
		check := func(kind string, source string, err api.Errno) {
			t.Helper()
			if err != want || err == api.OK && len(source) != size || err != api.OK && source != "" {
				t.Errorf("a source of a %s with %d bytes has %d bytes and the error %d", kind, size, len(source), err)
			}
		}
		source, err := printer.Expr(literal(strings.Repeat("a", size-2)))
		check("text", source, err)
		source, err = printer.Expr(literal(strings.Repeat("\n", (size-2)/2) + strings.Repeat("a", size%2)))
		check("text with escapes", source, err)
		source, err = printer.Module(module(valueDecl(text, literal(strings.Repeat("a", size-len("module m/v1\nlet v: text = \"\"\n"))))))
		check("module", source, err)
		noted := valueDecl(text, literal(""))
		noted.Exported, noted.Deprecated = true, true
		rest := size - len("module m/v1\nexport deprecated \"\" let v: text = \"\"\n")
		noted.Note = strings.Repeat("\x00", rest/4) + strings.Repeat("a", rest%4)
		source, err = printer.Module(module(noted))
		check("module with a note", source, err)
		source, err = printer.Type(longType(size))
		check("type", source, err)
		source, err = printer.Expr(ascribe(local("a"), longType(size-len("(a : )"))))
		check("expression", source, err)
	}
	long := literal(strings.Repeat("\x00", api.MaxText))
	many := node(api.ExprList, "", []api.Type{text}, "")
	many.Kids = slices.Repeat([]api.Expr{long}, api.MaxNodes-2)
	wrong(t, printer.Expr, api.ErrTooLarge, many)
	decls := module()
	for i := range api.MaxDecls {
		noted := valueDecl(text, long)
		noted.Name, noted.Exported, noted.Deprecated, noted.Note = "v"+strconv.Itoa(i), true, true, long.Text
		decls.Decls = append(decls.Decls, noted)
	}
	wrong(t, printer.Module, api.ErrTooLarge, decls)
}

// longType returns a type with a source of so many bytes: the names of some references are shorter.
func longType(size int) api.Type {
	name := "N" + strings.Repeat("n", api.MaxName-1)
	letters := "abcdefghijklmnopqrstuvwxyz012345"
	all, length := record(), 2
	for i := range letters {
		part := record()
		for j := range letters {
			part.Fields = append(part.Fields, field(strings.Repeat("f", api.MaxName-1)+letters[j:j+1], reference("", name)))
		}
		slices.SortFunc(part.Fields, func(a, b api.Field) int { return strings.Compare(a.Name, b.Name) })
		all.Fields = append(all.Fields, field("g"+letters[i:i+1], part))
		length += len("ga: {}, ") + len(letters)*(api.MaxName+len(": ")+api.MaxName+len(", ")) - len(", ")
	}
	slices.SortFunc(all.Fields, func(a, b api.Field) int { return strings.Compare(a.Name, b.Name) })
	more := length - len(", ") - size
	for _, part := range all.Fields {
		for i := range part.Type.Fields {
			less := min(more, api.MaxName-1)
			part.Type.Fields[i].Type.Name = name[:len(name)-less]
			more -= less
		}
	}
	return all
}

// withoutPair returns the sources that leave out one pair of parentheses of a source.
func withoutPair(t *testing.T, source string) []string {
	tokens, _, err := lexer.Lex(source)
	if err != api.OK {
		t.Fatalf("%q has no tokens", source)
	}
	var open []int
	var list []string
	for _, token := range tokens {
		switch {
		case token.Kind == api.TokenSymbol && token.Text == "(":
			open = append(open, token.Offset)
		case token.Kind == api.TokenSymbol && token.Text == ")":
			begin := open[len(open)-1]
			open = open[:len(open)-1]
			list = append(list, source[:begin]+" "+source[begin+1:token.Offset]+" "+source[token.Offset+1:])
		}
	}
	return list
}

// P6.2: random trees are read from their sources; no pair of parentheses can be left out; and the sources are tokens with single blanks at most.
func TestRandomTrees(t *testing.T) {
	choose := random(2)
	sizes, pairs := 0, 0
	for range 3000 {
		typ, expr, m := choose.Type(5), choose.Expr(5), choose.Module(3)
		source, err := printer.Type(typ)
		if err != syntax.CheckType(typ) {
			t.Fatalf("%v has the error %d", typ, err)
		}
		if back, _, e := parser.Type(source); err == api.OK && (e != api.OK || !syntax.EqualTypes(back, typ)) {
			t.Fatalf("%q is read as %v, not as %v", source, back, typ)
		}
		source, err = printer.Module(m)
		if back, _, e := parser.Module(source); err != api.OK || e != api.OK || !syntax.EqualModules(back, m) {
			t.Fatalf("%q with the error %d is read as %v, not as %v", source, err, back, m)
		}
		source, err = printer.Expr(expr)
		if err != syntax.CheckExpr(expr) {
			t.Fatalf("%v has the error %d", expr, err)
		}
		if err != api.OK {
			continue
		}
		sizes += syntax.ExprSize(expr)
		if back, _, e := parser.Expr(source); e != api.OK || !syntax.EqualExprs(back, expr) {
			t.Fatalf("%q is read as %v, not as %v", source, back, expr)
		}
		if len(source) > 4000 {
			continue
		}
		for _, less := range withoutPair(t, source) {
			pairs++
			if back, _, e := parser.Expr(less); e == api.OK && syntax.EqualExprs(back, expr) {
				t.Fatalf("%q is read as %q", less, source)
			}
		}
	}
	if sizes < 50000 || pairs < 5000 {
		t.Errorf("the expressions have only %d nodes and %d pairs of parentheses", sizes, pairs)
	}
}

// P6.2: equal trees, and no others, have equal sources.
func TestEqualSources(t *testing.T) {
	choose := random(3)
	types, exprs, modules := map[string]api.Type{}, map[string]api.Expr{}, map[string]api.Module{}
	repeated := 0
	for range 20000 {
		typ, expr, m := choose.Type(1), choose.Expr(1), choose.Module(0)
		source, _ := printer.Type(typ)
		if other, ok := types[source]; ok && !syntax.EqualTypes(typ, other) {
			t.Fatalf("%v and %v are both %q", typ, other, source)
		}
		types[source] = typ
		source, _ = printer.Expr(expr)
		other, ok := exprs[source]
		if ok && !syntax.EqualExprs(expr, other) {
			t.Fatalf("%v and %v are both %q", expr, other, source)
		}
		if ok {
			repeated++
		}
		exprs[source] = expr
		source, _ = printer.Module(m)
		if other, ok := modules[source]; ok && !syntax.EqualModules(m, other) {
			t.Fatalf("%v and %v are both %q", m, other, source)
		}
		modules[source] = m
	}
	if repeated < 1000 || len(exprs) < 1000 {
		t.Errorf("there are %d different expressions, and %d others", len(exprs), repeated)
	}
	// Nil and empty lists are equal.
	empty := api.Expr{Kind: api.ExprList, Types: []api.Type{{Kind: api.TypeRecord, Args: []api.Type{}, Fields: []api.Field{}}}, Labels: []api.Label{}, Kids: []api.Expr{}}
	wantExpr(t, "[{}|]", empty)
	wantModule(t, "module m/v1\n", api.Module{Path: "m/v1", Imports: []api.Import{}, Decls: []api.Decl{}})
}

// P1: trees that are not in any form, or deep.
func TestAnyTrees(t *testing.T) {
	choose := random(4)
	for range 3000 {
		typ, expr, m := choose.Type(4), choose.Expr(4), choose.Module(2)
		damage(choose, &typ, &expr)
		for i := range m.Decls {
			damage(choose, &m.Decls[i].Type, &m.Decls[i].Expr)
			m.Decls[i].Kind = choose(5) - 1
		}
		source, err := printer.Type(typ)
		if e := syntax.CheckType(typ); e != api.OK && err != e || (err == api.OK) != (source != "") {
			t.Fatalf("%v has the error %d and the source %q", typ, err, source)
		}
		source, err = printer.Expr(expr)
		if e := syntax.CheckExpr(expr); e != api.OK && err != e || (err == api.OK) != (source != "") {
			t.Fatalf("%v has the error %d and the source %q", expr, err, source)
		}
		source, err = printer.Module(m)
		if _, e := syntax.CheckModule(m); e != api.OK && err != e || (err == api.OK) != (source != "") {
			t.Fatalf("%v has the error %d and the source %q", m, err, source)
		}
	}
	deepType, deepExpr := integer, number(1)
	for range 100000 {
		deepType, deepExpr = list(deepType), operation("not", deepExpr)
	}
	wrong(t, printer.Type, api.ErrTooLarge, deepType)
	wrong(t, printer.Expr, api.ErrTooLarge, deepExpr, ascribe(number(1), deepType))
	wrong(t, printer.Module, api.ErrTooLarge, module(valueDecl(deepType, deepExpr)), module(typeDecl(deepType, deepType, deepType)))
}

// damage changes a part of a type and of an expression.
func damage(choose func(n int) int, t *api.Type, e *api.Expr) {
	for len(t.Args) > 0 && choose(3) > 0 {
		t = &t.Args[0]
	}
	switch choose(4) {
	case 0:
		t.Kind = choose(14) - 1
	case 1:
		t.Args = append(t.Args, api.Type{Kind: choose(12)})
	case 2:
		t.Name, t.Module = "a", "a/v1"
	}
	for len(e.Kids) > 0 && choose(3) > 0 {
		e = &e.Kids[choose(len(e.Kids))]
	}
	switch choose(5) {
	case 0:
		e.Kind = choose(20) - 1
	case 1:
		e.Kids = append(e.Kids, api.Expr{Kind: choose(18)})
	case 2:
		e.Name, e.Module = "", "a/v1"
	case 3:
		e.Labels = append(e.Labels, api.Label{Name: "a"})
	}
}

// P2, P3: goroutines get the same sources, and the trees stay as they are.
func TestSharedUse(t *testing.T) {
	choose := random(5)
	m := choose.Module(3)
	for len(m.Decls) < 4 {
		m = choose.Module(3)
	}
	want, err := printer.Module(m)
	before, _, parsed := parser.Module(want)
	if err != api.OK || parsed != api.OK {
		t.Fatal(err, parsed)
	}
	var all sync.WaitGroup
	for range 8 {
		all.Add(1)
		go func() {
			defer all.Done()
			for range 50 {
				if got, err := printer.Module(m); got != want || err != api.OK {
					t.Error("another source in a goroutine")
				}
			}
		}()
	}
	all.Wait()
	if !syntax.EqualModules(m, before) {
		t.Error("the argument has changed")
	}
}
