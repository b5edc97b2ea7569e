package syntax_test

import (
	"math/rand"
	"reflect"
	"slices"
	"strings"
	"testing"

	"modcert/api"
	"modcert/syntax"
)

var (
	tooLong    = strings.Repeat("x", api.MaxName+1)
	keywords   = strings.Fields("and any as bool deprecated else export false fn fold from if import in int length let list match module none not or text then true type use")
	notNames   = slices.Concat([]string{"", "A", "_", "1", "a ", "a/v1", "#0", tooLong}, keywords)
	notTypes   = []string{"", "a", "_A", "1", "A ", "A/v1", "#0", "int", "X" + tooLong[1:]}
	notModules = slices.Concat([]string{"A", "_", "1", "a/", "a/b", "a/v01", "a/v1000", "#0", tooLong, tooLong + "/v1", "int/v1"}, keywords)
)

// checkTypes checks the errors of several types.
func checkTypes(t *testing.T, want api.Errno, types ...api.Type) {
	t.Helper()
	for _, x := range types {
		if got := syntax.CheckType(x); got != want {
			t.Errorf("%s has the error %d, not %d", show(x), got, want)
		}
	}
}

func checkExprs(t *testing.T, want api.Errno, exprs ...api.Expr) {
	t.Helper()
	for _, x := range exprs {
		if got := syntax.CheckExpr(x); got != want {
			t.Errorf("%s has the error %d, not %d", show(x), got, want)
		}
	}
}

// goodTypes returns a type of each kind.
func goodTypes() []api.Type {
	return []api.Type{anything, nothing, integer, boolean, text, list(integer), record(field("a", integer), field("b", text)), variant(field("a", integer), field("b", text)),
		function(integer, field("a", integer), optional("b", text)), variable("A"), reference("m", "A", integer)}
}

// P4.2: types have the parts that the form of their kind names, and no others.
func TestPartsOfTypes(t *testing.T) {
	parts := []string{"", "", "", "", "", "1", "F", "F", "1FO", "N", "MNA"} // 1: one element of Args, A: any number
	for kind, good := range goodTypes() {
		checkTypes(t, api.OK, good)
		expect := func(part string, changed func(x *api.Type)) {
			t.Helper()
			x, want := duplicate(good, false), api.OK
			changed(&x)
			if !strings.Contains(parts[kind], part) {
				want = api.ErrArg
			}
			checkTypes(t, want, x, list(x), record(field("a", x)))
		}
		expect("M", func(x *api.Type) { x.Module = "a/v1" })
		expect("N", func(x *api.Type) { x.Name = "B" })
		expect("A", func(x *api.Type) { x.Args = append(x.Args, integer) })
		expect("A", func(x *api.Type) { x.Args = append(x.Args, anything, anything) })
		expect("F", func(x *api.Type) { x.Fields = append(x.Fields, field("c", integer)) })
		expect("F", func(x *api.Type) { x.Fields = append(x.Fields, field("z", anything)) })
		expect("O", func(x *api.Type) { x.Fields = append(x.Fields, optional("c", integer)) })
		expect("?", func(x *api.Type) { x.Kind = 11 })
		expect("?", func(x *api.Type) { x.Kind = -1 })
		if strings.Contains(parts[kind], "1") {
			expect("A", func(x *api.Type) { x.Args = nil })
		}
	}
	checkTypes(t, api.OK, record(), variant(), function(integer), reference("", "A"), reference("m", "A"), reference("a/v1", "A", text, text), function(integer, optional("a", text), optional("b", text)))
	checkTypes(t, api.ErrArg, record(optional("a", integer)), variant(field("a", text), optional("b", integer)), api.Type{Kind: 100}, api.Type{Kind: -1 << 63})
}

// P4.2: names of fields, variables and references.
func TestNamesOfTypes(t *testing.T) {
	for _, name := range notNames {
		checkTypes(t, api.ErrName, record(field(name, integer)), variant(field("a", text), field(name, integer)), function(text, optional(name, integer)))
	}
	for _, name := range notTypes {
		checkTypes(t, api.ErrName, reference("", name), reference("m", name, integer))
		if name != "#0" {
			checkTypes(t, api.ErrName, variable(name))
		}
	}
	for _, module := range notModules {
		checkTypes(t, api.ErrName, reference(module, "A"))
	}
	checkTypes(t, api.ErrName, variable("#8"), variable("#"), variable("#00"), variable("#A"))
	checkTypes(t, api.OK, variable("#0"), variable("#7"), variable("A"), reference("", "Int"), reference("m_1", "A"), reference("a/b/v999", "A"), record(field(tooLong[1:], integer)), variable("X"+tooLong[2:]))
}

// P4.2: the names of fields increase strictly, byte by byte.
func TestOrderOfFields(t *testing.T) {
	for order, want := range map[string]api.Errno{
		"a": api.OK, "a b": api.OK, "a aZ a_ aa b": api.OK, "a0 a1 aA": api.OK, "a10 a2": api.OK, "b a": api.ErrArg, "a a": api.ErrExists, "a c b b": api.ErrArg, "a b b a": api.ErrExists, "a b a": api.ErrArg, "b b a": api.ErrExists, "c b b": api.ErrArg,
		"aa aZ": api.ErrArg, "a_ aZ": api.ErrArg, "ab a": api.ErrArg, "a b c d d": api.ErrExists, "a b c e d": api.ErrArg,
	} {
		x := function(integer)
		for _, name := range strings.Fields(order) {
			x.Fields = append(x.Fields, field(name, text))
		}
		checkTypes(t, want, x, record(x.Fields...), variant(x.Fields...), list(record(field("z", x))))
	}
}

// P4.2: the limits of types.
func TestLimitsOfTypes(t *testing.T) {
	args := make([]api.Type, api.MaxParams+1)
	for _, make := range []func(fields ...api.Field) api.Type{record, variant, func(fields ...api.Field) api.Type { return function(integer, fields...) }} {
		checkTypes(t, api.OK, make(fields(api.MaxFields, text)...))
		checkTypes(t, api.ErrTooLarge, make(fields(api.MaxFields+1, text)...), make(fields(500, text)...))
	}
	checkTypes(t, api.OK, reference("", "A", args[1:]...), deepType(api.MaxDepth, integer), bigType(api.MaxNodes), deepType(api.MaxDepth-4, bigType(api.MaxNodes-api.MaxDepth+5)))
	checkTypes(t, api.ErrTooLarge, reference("", "A", args...), deepType(api.MaxDepth+1, integer), bigType(api.MaxNodes+1), deepType(1000, integer), bigType(1<<18), record(field("a", text), field("b", deepType(api.MaxDepth, text))))
	checkTypes(t, api.ErrTooLarge, deepType(api.MaxDepth+1, api.Type{Kind: -1}), list(api.Type{Kind: api.TypeRef, Args: make([]api.Type, api.MaxNodes)}), api.Type{Kind: -1, Args: make([]api.Type, api.MaxNodes)})
	checkTypes(t, api.ErrArg, api.Type{Kind: -1, Args: make([]api.Type, api.MaxNodes-1)}, deepType(api.MaxDepth, api.Type{Kind: -1}))
	var doubled api.Type
	for range 20 {
		doubled = record(field("a", doubled), field("b", doubled))
	}
	checkTypes(t, api.ErrTooLarge, doubled)
}

// P4.2: of several errors of a type the first one counts.
func TestFirstErrorOfType(t *testing.T) {
	order := []api.Errno{api.ErrArg, api.ErrTooLarge, api.ErrName, api.ErrExists, api.ErrArg}
	for _, kind := range []int{api.TypeRecord, api.TypeVariant, api.TypeFunc} {
		start := record(append(fields(api.MaxFields-1, integer), field("A", integer), field("A", integer))...)
		start.Kind = kind
		if kind == api.TypeFunc {
			start.Args = []api.Type{integer}
		}
		start.Module = "m"
		ladder(t, start, syntax.CheckType, order,
			func(x *api.Type) { x.Module = "" },
			func(x *api.Type) { x.Fields = x.Fields[1:] },
			func(x *api.Type) { x.Fields[30].Name, x.Fields[31].Name = "z", "z" },
			func(x *api.Type) { x.Fields[31].Name = "a" },
			func(x *api.Type) { x.Fields[31].Name = "zz" })
	}
	ladder(t, reference("M", "a", make([]api.Type, api.MaxParams+1)...), syntax.CheckType, []api.Errno{api.ErrTooLarge, api.ErrName, api.ErrName},
		func(x *api.Type) { x.Args = x.Args[1:] }, func(x *api.Type) { x.Module = "m" }, func(x *api.Type) { x.Name = "A" })
	withField := reference("M", "A", make([]api.Type, api.MaxParams+1)...)
	withField.Fields = fields(1, text)
	checkTypes(t, api.ErrArg, withField)
	bad := map[api.Errno]api.Type{api.ErrArg: {Kind: 11}, api.ErrName: variable("a"), api.ErrTooLarge: record(fields(33, text)...), api.ErrExists: record(field("a", text), field("a", text))}
	for first, a := range bad {
		for _, b := range bad {
			checkTypes(t, first, a, record(field("a", a), field("b", b)), function(a, field("a", b)), reference("", "A", integer, a, b), list(list(a)), record(field("a", list(list(a))), field("b", b)))
			outer := record(field("b", b), field("c", b))
			switch first {
			case api.ErrArg:
				outer.Name = "x"
			case api.ErrName:
				outer.Fields[0].Name = "X"
			case api.ErrTooLarge:
				outer.Fields = fields(40, b)
			case api.ErrExists:
				outer.Fields[0].Name = "c"
			}
			checkTypes(t, first, outer)
		}
	}
}

// goodExprs returns an expression of each kind.
func goodExprs() []api.Expr {
	two := []api.Label{{Name: "a"}, {Name: "b"}}
	arms := []api.Label{{Name: "a", Variable: "x"}, {Name: "b", Variable: "x"}}
	formals := []api.Label{{Name: "a", Type: integer}, {Name: "b", Type: text, Optional: true}}
	one := []api.Type{integer}
	return []api.Expr{
		{Kind: api.ExprInt, Number: -5}, {Kind: api.ExprText, Text: "a\x00\xff"}, {Kind: api.ExprBool, Number: 1}, {Kind: api.ExprLocal, Name: "a"}, {Kind: api.ExprValue, Module: "m", Name: "a", Types: one},
		{Kind: api.ExprRecord, Labels: two, Kids: numbers(2)}, {Kind: api.ExprProject, Name: "a", Kids: numbers(1)}, {Kind: api.ExprInject, Name: "a", Kids: numbers(1)}, {Kind: api.ExprFunc, Labels: formals, Kids: numbers(2)},
		{Kind: api.ExprCall, Labels: two, Kids: numbers(3)}, {Kind: api.ExprLet, Name: "a", Kids: numbers(2)}, {Kind: api.ExprAscribe, Types: one, Kids: numbers(1)}, {Kind: api.ExprIf, Types: one, Kids: numbers(3)},
		{Kind: api.ExprMatch, Types: one, Labels: arms, Kids: numbers(3)}, {Kind: api.ExprList, Types: one, Kids: numbers(2)}, {Kind: api.ExprFold, Name: "a", Text: "b", Types: one, Kids: numbers(3)}, {Kind: api.ExprOp, Name: "+", Kids: numbers(2)},
	}
}

// P4.2: expressions have the parts that the form of their kind names, and no others.
func TestPartsOfExprs(t *testing.T) {
	// 1: one element of Types, T: any number; K: any number of Kids; I: a number, V, Y, O: variables, types and optional labels.
	parts := []string{"I", "X", "", "N", "MNT", "L", "N", "N", "LYO", "L", "N", "1", "1", "1LV", "1K", "1NX", ""}
	for kind, good := range goodExprs() {
		expect := func(part string, changed func(x *api.Expr)) {
			t.Helper()
			x, want := duplicate(good, false), api.OK
			changed(&x)
			if !strings.Contains(parts[kind], part) {
				want = api.ErrArg
			}
			checkExprs(t, want, x, operation("not", x), elements(integer, number(1), x))
		}
		checkExprs(t, api.OK, good)
		expect("M", func(x *api.Expr) { x.Module = "a/v1" })
		if kind != api.ExprOp {
			expect("N", func(x *api.Expr) { x.Name = "c" })
		}
		expect("X", func(x *api.Expr) { x.Text = "c" })
		expect("I", func(x *api.Expr) { x.Number = 2 })
		expect("I", func(x *api.Expr) { x.Number = -1 })
		expect("T", func(x *api.Expr) { x.Types = append(x.Types, integer) })
		expect("T", func(x *api.Expr) { x.Types = append(x.Types, anything, anything) })
		if len(good.Types) > 0 {
			expect("T", func(x *api.Expr) { x.Types = nil })
		}
		expect("K", func(x *api.Expr) { x.Kids = append(x.Kids, number(0)) })
		if len(good.Kids) > 0 {
			expect("K", func(x *api.Expr) { x.Kids = x.Kids[1:] })
			expect("K", func(x *api.Expr) { x.Kids = nil })
		}
		expect("?", func(x *api.Expr) { x.Kind = 17 })
		expect("?", func(x *api.Expr) { x.Kind = -1 })
		expectLabels(expect)
	}
}

// expectLabels checks which labels an expression may have.
func expectLabels(expect func(part string, changed func(x *api.Expr))) {
	add := func(l api.Label, kids int) func(x *api.Expr) {
		return func(x *api.Expr) {
			if x.Kind == api.ExprMatch {
				l.Variable = "y"
			}
			x.Labels = append(x.Labels, l)
			if x.Kind != api.ExprFunc {
				kids++
			}
			x.Kids = append(x.Kids, numbers(kids)...)
		}
	}
	expect("L", add(api.Label{Name: "c"}, 0))
	expect("Y", add(api.Label{Name: "c", Type: list(integer)}, 0))
	expect("Y", add(api.Label{Name: "c", Type: api.Type{Kind: api.TypeNone}}, 0))
	expect("O", add(api.Label{Name: "c", Optional: true}, 1))
	expect("?", add(api.Label{Name: "c", Optional: true}, 0))
	expect("?", add(api.Label{Name: "c"}, 1))
	expect("V", func(x *api.Expr) {
		add(api.Label{Name: "c"}, 0)(x)
		x.Labels[len(x.Labels)-1].Variable = "y"
	})
}

// P4.2: numbers, booleans, operators, and expressions without labels or kids.
func TestFormsOfExprs(t *testing.T) {
	one := []api.Type{integer}
	checkExprs(t, api.OK, number(0), number(1<<63-1), number(-1<<63), api.Expr{Kind: api.ExprBool}, api.Expr{Kind: api.ExprBool, Number: 1}, api.Expr{Kind: api.ExprText}, api.Expr{Kind: api.ExprRecord}, elements(text),
		api.Expr{Kind: api.ExprValue, Name: "a"}, api.Expr{Kind: api.ExprValue, Module: "a/v1", Name: "a"}, api.Expr{Kind: api.ExprFunc, Kids: numbers(1)}, api.Expr{Kind: api.ExprCall, Kids: numbers(1)}, api.Expr{Kind: api.ExprMatch, Types: one, Kids: numbers(1)},
		api.Expr{Kind: api.ExprFunc, Labels: []api.Label{{Name: "a", Optional: true}, {Name: "b"}, {Name: "c", Optional: true, Type: text}}, Kids: numbers(3)})
	checkExprs(t, api.ErrArg, api.Expr{Kind: api.ExprBool, Number: 2}, api.Expr{Kind: api.ExprBool, Number: -1}, api.Expr{Kind: 100}, api.Expr{Kind: api.ExprFunc}, api.Expr{Kind: api.ExprCall}, api.Expr{Kind: api.ExprMatch, Types: one},
		api.Expr{Kind: api.ExprFunc, Labels: []api.Label{{Name: "a", Optional: true}, {Name: "b"}}, Kids: numbers(3)}, api.Expr{Kind: api.ExprFunc, Labels: []api.Label{{Name: "a", Optional: true}, {Name: "b"}}, Kids: numbers(1)})
	for _, name := range []string{"+", "-", "*", "<", "==", "===", "++", "and", "or"} {
		checkExprs(t, api.OK, operation(name, numbers(2)...))
		checkExprs(t, api.ErrArg, operation(name), operation(name, number(1)), operation(name, numbers(3)...))
	}
	for _, name := range []string{"not", "length"} {
		checkExprs(t, api.OK, operation(name, number(1)))
		checkExprs(t, api.ErrArg, operation(name), operation(name, numbers(2)...))
	}
	for _, name := range []string{"", "=", "====", "/", ">", "a", "AND", " +", "+ ", "xor", "+++", "<:", "=>", "not ", "Not", "let"} {
		checkExprs(t, api.ErrArg, operation(name), operation(name, number(1)), operation(name, numbers(2)...))
	}
}

// P4.2: names of expressions and labels.
func TestNamesOfExprs(t *testing.T) {
	for _, name := range notNames {
		for _, good := range goodExprs() {
			x := duplicate(good, false)
			if x.Name != "" && x.Kind != api.ExprOp {
				x.Name = name
				checkExprs(t, api.ErrName, x, operation("not", x))
			}
			for i := range good.Labels {
				x = duplicate(good, false)
				x.Labels[i].Name = name
				checkExprs(t, api.ErrName, x)
			}
			if good.Kind == api.ExprMatch {
				x = duplicate(good, false)
				x.Labels[1].Variable = name
				checkExprs(t, api.ErrName, x)
			}
			if good.Kind == api.ExprFold {
				x = duplicate(good, false)
				x.Text = name
				checkExprs(t, api.ErrName, x)
			}
		}
	}
	for _, module := range notModules {
		checkExprs(t, api.ErrName, api.Expr{Kind: api.ExprValue, Module: module, Name: "a"})
	}
	checkExprs(t, api.OK, local(tooLong[1:]), api.Expr{Kind: api.ExprValue, Module: "m_1", Name: "a"}, api.Expr{Kind: api.ExprValue, Module: "a/b/v0", Name: "a_B1"})
	checkExprs(t, api.ErrExists, api.Expr{Kind: api.ExprFold, Name: "a", Text: "a", Types: []api.Type{integer}, Kids: numbers(3)})
	checkExprs(t, api.OK, api.Expr{Kind: api.ExprMatch, Types: []api.Type{integer}, Labels: []api.Label{{Name: "a", Variable: "a"}, {Name: "b", Variable: "a"}}, Kids: numbers(3)})
}

// P4.2: the names of labels increase strictly.
func TestOrderOfLabels(t *testing.T) {
	for order, want := range map[string]api.Errno{"a b": api.OK, "aZ a_ aa": api.OK, "b a": api.ErrArg, "a a": api.ErrExists, "a c b b": api.ErrArg, "a b b a": api.ErrExists, "aa aZ": api.ErrArg, "a b c d d": api.ErrExists} {
		for _, kind := range []int{api.ExprRecord, api.ExprFunc, api.ExprCall, api.ExprMatch} {
			x := api.Expr{Kind: kind}
			for _, name := range strings.Fields(order) {
				label := api.Label{Name: name}
				if kind == api.ExprMatch {
					label.Variable, x.Types = "x", []api.Type{integer}
				}
				x.Labels = append(x.Labels, label)
			}
			switch kind {
			case api.ExprRecord:
				x.Kids = numbers(len(x.Labels))
			case api.ExprFunc:
				x.Kids = numbers(1)
			default:
				x.Kids = numbers(len(x.Labels) + 1)
			}
			checkExprs(t, want, x)
		}
	}
}

// P4.2: the limits of expressions.
func TestLimitsOfExprs(t *testing.T) {
	fold := api.Expr{Kind: api.ExprFold, Name: "a", Text: strings.Repeat("x", api.MaxText), Types: []api.Type{integer}, Kids: numbers(3)}
	checkExprs(t, api.ErrName, fold)
	fold.Text += "x"
	checkExprs(t, api.ErrTooLarge, fold, api.Expr{Kind: api.ExprText, Text: fold.Text})
	checkExprs(t, api.OK, api.Expr{Kind: api.ExprText, Text: fold.Text[1:]})
	types := make([]api.Type, api.MaxParams+1)
	checkExprs(t, api.ErrTooLarge, api.Expr{Kind: api.ExprValue, Name: "a", Types: types})
	checkExprs(t, api.OK, api.Expr{Kind: api.ExprValue, Name: "a", Types: types[1:]})
	for count, want := range map[int]api.Errno{api.MaxFields: api.OK, api.MaxFields + 1: api.ErrTooLarge, 500: api.ErrTooLarge} {
		arms := labels(count)
		for i := range arms {
			arms[i].Variable = "x"
		}
		checkExprs(t, want, api.Expr{Kind: api.ExprRecord, Labels: labels(count), Kids: numbers(count)}, api.Expr{Kind: api.ExprCall, Labels: labels(count), Kids: numbers(count + 1)},
			api.Expr{Kind: api.ExprFunc, Labels: labels(count), Kids: numbers(1)}, api.Expr{Kind: api.ExprMatch, Types: []api.Type{text}, Labels: arms, Kids: numbers(count + 1)})
	}
	checkExprs(t, api.OK, deepExpr(api.MaxDepth, number(1)), elements(integer, numbers(api.MaxNodes-2)...), ascribe(number(1), bigType(api.MaxNodes-2)), deepExpr(api.MaxDepth-1, ascribe(number(1), deepType(api.MaxDepth, text))))
	checkExprs(t, api.ErrTooLarge, deepExpr(api.MaxDepth+1, number(1)), elements(integer, numbers(api.MaxNodes-1)...), ascribe(number(1), bigType(api.MaxNodes-1)), ascribe(number(1), deepType(api.MaxDepth+1, text)), deepExpr(1000, number(1)), elements(text, numbers(1<<17)...))
	half := func(size int) []api.Label {
		return []api.Label{{Name: "a", Type: bigType(size)}, {Name: "b", Type: bigType(1000)}}
	}
	checkExprs(t, api.OK, api.Expr{Kind: api.ExprFunc, Labels: half(api.MaxNodes - 1002), Kids: numbers(1)}, api.Expr{Kind: api.ExprFunc, Labels: half(1000), Kids: []api.Expr{elements(text, numbers(api.MaxNodes-2003)...)}})
	checkExprs(t, api.ErrTooLarge, api.Expr{Kind: api.ExprFunc, Labels: half(api.MaxNodes - 1001), Kids: numbers(1)}, api.Expr{Kind: api.ExprFunc, Labels: half(1000), Kids: []api.Expr{elements(text, numbers(api.MaxNodes-2002)...)}})
	checkExprs(t, api.ErrTooLarge, deepExpr(api.MaxDepth+1, api.Expr{Kind: -1}), api.Expr{Kind: -1, Kids: numbers(api.MaxNodes)}, api.Expr{Kind: -1, Types: make([]api.Type, api.MaxNodes)})
	checkExprs(t, api.ErrArg, deepExpr(api.MaxDepth, api.Expr{Kind: -1}), api.Expr{Kind: -1, Kids: numbers(api.MaxNodes - 1)})
}

// P4.2: of several errors of an expression the first one counts.
func TestFirstErrorOfExpr(t *testing.T) {
	bad := variable("a")
	arms := labels(api.MaxFields + 1)
	for i := range arms {
		arms[i].Variable = "X"
	}
	match := api.Expr{Kind: api.ExprMatch, Number: 1, Types: []api.Type{bad}, Labels: arms, Kids: numbers(len(arms) + 1)}
	match.Kids[0] = api.Expr{Kind: -1}
	match.Labels[32].Name = "f100"
	ladder(t, match, syntax.CheckExpr, []api.Errno{api.ErrArg, api.ErrTooLarge, api.ErrName, api.ErrArg, api.ErrExists, api.ErrName, api.ErrArg},
		func(x *api.Expr) { x.Number = 0 },
		func(x *api.Expr) { x.Labels, x.Kids = x.Labels[1:], x.Kids[:33] },
		func(x *api.Expr) {
			for i := range x.Labels {
				x.Labels[i].Variable = "x"
			}
		},
		func(x *api.Expr) { x.Labels[31].Name = x.Labels[30].Name },
		func(x *api.Expr) { x.Labels[31].Name = "z" },
		func(x *api.Expr) { x.Types[0] = text },
		func(x *api.Expr) { x.Kids[0] = number(1) })
	fold := api.Expr{Kind: api.ExprFold, Module: "m", Name: "A", Text: "A" + strings.Repeat("x", api.MaxText), Types: []api.Type{deepType(api.MaxDepth+1, bad)}, Kids: []api.Expr{local("A"), operation("="), number(1)}}
	ladder(t, fold, syntax.CheckExpr, []api.Errno{api.ErrArg, api.ErrTooLarge, api.ErrName, api.ErrName, api.ErrExists, api.ErrTooLarge, api.ErrName, api.ErrName, api.ErrArg},
		func(x *api.Expr) { x.Module = "" },
		func(x *api.Expr) { x.Text = "A" },
		func(x *api.Expr) { x.Name = "a" },
		func(x *api.Expr) { x.Text = "a" },
		func(x *api.Expr) { x.Text = "b" },
		func(x *api.Expr) { x.Types[0] = list(bad) },
		func(x *api.Expr) { x.Types[0] = text },
		func(x *api.Expr) { x.Kids[0] = number(1) },
		func(x *api.Expr) { x.Kids[1] = number(1) })
	value := api.Expr{Kind: api.ExprValue, Module: "M", Name: "A", Labels: labels(1), Types: make([]api.Type, api.MaxParams+1)}
	value.Types[3], value.Types[4] = bad, api.Type{Kind: 11}
	ladder(t, value, syntax.CheckExpr, []api.Errno{api.ErrArg, api.ErrTooLarge, api.ErrName, api.ErrName, api.ErrName, api.ErrArg},
		func(x *api.Expr) { x.Labels = nil },
		func(x *api.Expr) { x.Types = x.Types[1:] },
		func(x *api.Expr) { x.Module = "" },
		func(x *api.Expr) { x.Name = "a" },
		func(x *api.Expr) { x.Types[2] = text },
		func(x *api.Expr) { x.Types[3] = text })
	formals := api.Expr{Kind: api.ExprFunc, Labels: []api.Label{{Name: "b", Type: bad}, {Name: "b", Type: record(field("a", text), field("a", text)), Optional: true}}, Kids: []api.Expr{local("A"), {Kind: -1}}}
	ladder(t, formals, syntax.CheckExpr, []api.Errno{api.ErrExists, api.ErrName, api.ErrExists, api.ErrName, api.ErrArg},
		func(x *api.Expr) { x.Labels[0].Name = "a" },
		func(x *api.Expr) { x.Labels[0].Type = text },
		func(x *api.Expr) { x.Labels[1].Type = text },
		func(x *api.Expr) { x.Kids[0] = number(1) },
		func(x *api.Expr) { x.Kids[1] = number(1) })
}

// check returns the error of a module, and checks its index.
func check(t *testing.T, m api.Module, index int, want api.Errno) {
	t.Helper()
	if i, err := syntax.CheckModule(m); i != index || err != want {
		t.Errorf("%s has the error %d with the index %d, not %d with %d", show(m), err, i, want, index)
	}
}

// module returns a module with declarations.
func module(decls ...api.Decl) api.Module {
	return api.Module{Path: "a/v1", Decls: decls}
}

// checkDecls checks the errors of several declarations, alone and behind others.
func checkDecls(t *testing.T, want api.Errno, decls ...api.Decl) {
	t.Helper()
	for _, d := range decls {
		front := []api.Decl{{Kind: api.DeclValue, Name: "y"}, {Kind: api.DeclType, Name: "Y"}, {Kind: api.DeclUse, Name: "z", Module: "m", Target: "y"}}
		for i := range front {
			index := 0
			if want != api.OK {
				index = i
			}
			check(t, module(append(slices.Clone(front[:i]), d, api.Decl{Kind: -1})[:i+1]...), index, want)
		}
	}
}

// goodDecls returns a declaration of each kind.
func goodDecls() []api.Decl {
	return []api.Decl{
		{Kind: api.DeclType, Name: "A", Params: []api.Param{{Name: "X", Variance: api.Contravariant}, {Name: "Z"}}, Lower: nothing, Upper: list(text), Type: list(integer)},
		{Kind: api.DeclValue, Name: "a", Params: []api.Param{{Name: "X", Bound: integer}, {Name: "Z"}}, Type: list(text), Expr: number(1)},
		{Kind: api.DeclUse, Name: "b", Module: "m", Target: "c"},
	}
}

// P4.2: modules without errors, and what their declarations must not have.
func TestPartsOfDecls(t *testing.T) {
	check(t, api.Module{Path: "a/v1"}, 0, api.OK)
	check(t, api.Module{Path: "a/v1", Imports: []api.Import{{Path: "b/v1", Alias: "b"}, {Path: "a/v2", Alias: "a"}}, Decls: goodDecls()}, 0, api.OK)
	parts := []string{"PVLUT", "PBTE", "MG"}
	for kind, good := range goodDecls() {
		expect := func(part string, changed func(x *api.Decl)) {
			t.Helper()
			x, want := duplicate(good, false), api.OK
			changed(&x)
			if !strings.Contains(parts[kind], part) {
				want = api.ErrArg
			}
			checkDecls(t, want, x)
		}
		checkDecls(t, api.OK, good)
		expect("P", func(x *api.Decl) { x.Params = append(x.Params, api.Param{Name: "B"}) })
		expect("V", func(x *api.Decl) { x.Params = append(x.Params, api.Param{Name: "B", Variance: api.Invariant}) })
		expect("V", func(x *api.Decl) { x.Params = append(x.Params, api.Param{Name: "B", Variance: api.Contravariant}) })
		expect("B", func(x *api.Decl) { x.Params = append(x.Params, api.Param{Name: "B", Bound: nothing}) })
		expect("?", func(x *api.Decl) { x.Params = append(x.Params, api.Param{Name: "B", Variance: 3}) })
		expect("?", func(x *api.Decl) { x.Params = append(x.Params, api.Param{Name: "B", Variance: -1}) })
		expect("L", func(x *api.Decl) { x.Lower = integer })
		expect("U", func(x *api.Decl) { x.Upper = integer })
		expect("T", func(x *api.Decl) { x.Type = integer })
		expect("E", func(x *api.Decl) { x.Expr = number(2) })
		expect("E", func(x *api.Decl) { x.Expr = elements(anything) })
		expect("M", func(x *api.Decl) { x.Module = "a/v1" })
		expect("G", func(x *api.Decl) { x.Target = "d" })
		expect("?", func(x *api.Decl) { x.Kind = 3 })
		expect("?", func(x *api.Decl) { x.Kind = -1 })
	}
	check(t, module(api.Decl{Kind: 3}), 0, api.ErrArg)
	check(t, module(api.Decl{Kind: -1, Name: "A"}), 0, api.ErrArg)
}

// P4.2: which declarations can be deprecated.
func TestDeprecated(t *testing.T) {
	for _, d := range goodDecls() {
		d.Exported = true
		checkDecls(t, api.OK, d)
		d.Deprecated = true
		checkDecls(t, api.OK, d)
		d.Note = strings.Repeat("\xff", api.MaxText)
		checkDecls(t, api.OK, d)
		d.Note += "x"
		checkDecls(t, api.ErrTooLarge, d)
		d.Deprecated = false
		checkDecls(t, api.ErrArg, d)
		d.Note = "x"
		checkDecls(t, api.ErrArg, d)
		d.Exported = false
		checkDecls(t, api.ErrArg, d)
		d.Deprecated = true
		checkDecls(t, api.ErrArg, d)
		d.Note = ""
		checkDecls(t, api.ErrArg, d)
	}
}

// P4.2: names of declarations, of parameters and of what facades lead to.
func TestNamesOfDecls(t *testing.T) {
	good := goodDecls()
	for _, name := range notNames {
		value, use := good[1], good[2]
		value.Name = name
		checkDecls(t, api.ErrName, value)
		use.Name = name
		checkDecls(t, api.ErrName, use)
		use.Name, use.Target = "b", name
		checkDecls(t, api.ErrName, use)
	}
	for _, name := range notTypes {
		decl, use := good[0], api.Decl{Kind: api.DeclUse, Name: "B", Module: "a/v1", Target: "C"}
		checkDecls(t, api.OK, use)
		decl.Name = name
		checkDecls(t, api.ErrName, decl)
		use.Name = name
		checkDecls(t, api.ErrName, use)
		use.Name, use.Target = "B", name
		checkDecls(t, api.ErrName, use)
		for _, d := range good[:2] {
			d.Params = []api.Param{{Name: "X"}, {Name: name}}
			checkDecls(t, api.ErrName, d)
		}
	}
	for _, module := range append(notModules, "") {
		use := good[2]
		use.Module = module
		checkDecls(t, api.ErrName, use)
	}
	checkDecls(t, api.ErrName, api.Decl{Kind: api.DeclUse, Module: "m"})
	checkDecls(t, api.OK, api.Decl{Kind: api.DeclUse, Name: "b", Module: "a/v1", Target: "b"}, api.Decl{Kind: api.DeclType, Name: "X", Params: []api.Param{{Name: "X"}}})
}

// P4.2: names that are declared twice.
func TestRepeatedNames(t *testing.T) {
	good := goodDecls()
	check(t, module(good[1], good[0], good[1]), 2, api.ErrExists)
	check(t, module(good[0], good[0], api.Decl{Kind: -1}), 1, api.ErrExists)
	check(t, module(good[0], good[1], good[2], api.Decl{Kind: api.DeclUse, Name: "A", Module: "m", Target: "B"}), 3, api.ErrExists)
	check(t, module(api.Decl{Kind: api.DeclUse, Name: "a", Module: "m", Target: "b"}, good[1]), 1, api.ErrExists)
	check(t, module(good[2], api.Decl{Kind: api.DeclUse, Name: "c", Module: "m", Target: "b"}, api.Decl{Kind: api.DeclUse, Name: "d", Module: "m", Target: "b"}), 0, api.OK)
	for _, d := range good[:2] {
		d.Params = []api.Param{{Name: "X"}, {Name: "Y"}, {Name: "X"}}
		checkDecls(t, api.ErrExists, d)
	}
}

// P4.2: a declaration has at most MaxParams parameters, and its types and its expression have their forms.
func TestTypesOfDecls(t *testing.T) {
	good := goodDecls()
	params := []api.Param{{Name: "A"}, {Name: "B"}, {Name: "C"}, {Name: "D"}, {Name: "E"}, {Name: "F"}, {Name: "G"}, {Name: "H"}, {Name: "I"}}
	for _, d := range good[:2] {
		d.Params = params
		checkDecls(t, api.ErrTooLarge, d)
		d.Params = params[1:]
		checkDecls(t, api.OK, d)
	}
	for want, bad := range map[api.Errno]api.Type{api.ErrArg: {Kind: 11}, api.ErrName: variable("a"), api.ErrTooLarge: deepType(api.MaxDepth+1, text), api.ErrExists: record(field("a", text), field("a", text))} {
		for i := range 3 {
			d := good[0]
			*[]*api.Type{&d.Lower, &d.Upper, &d.Type}[i] = list(bad)
			checkDecls(t, want, d)
		}
		d := duplicate(good[1], false)
		d.Params[1].Bound = bad
		checkDecls(t, want, d)
		d = duplicate(good[1], false)
		d.Type = bad
		checkDecls(t, want, d)
		d = duplicate(good[1], false)
		d.Expr = ascribe(number(1), bad)
		checkDecls(t, want, d)
	}
	value := good[1]
	value.Expr = deepExpr(api.MaxDepth+1, number(1))
	checkDecls(t, api.ErrTooLarge, value)
}

// P4.2: of several errors of a declaration the first one counts.
func TestFirstErrorOfDecl(t *testing.T) {
	checkDecl := func(d api.Decl) api.Errno {
		_, err := syntax.CheckModule(module(d, api.Decl{Kind: api.DeclUse, Name: "z", Module: "m", Target: "y"}))
		return err
	}
	arg, bad, same := api.Type{Kind: 11}, variable("a"), record(field("a", text), field("a", text))
	start := api.Decl{Kind: api.DeclType, Name: "a", Module: "m", Lower: arg, Upper: bad, Type: same, Params: make([]api.Param, api.MaxParams+1)}
	ladder(t, start, checkDecl, []api.Errno{api.ErrArg, api.ErrTooLarge, api.ErrName, api.ErrName, api.ErrExists, api.ErrArg, api.ErrName, api.ErrExists},
		func(d *api.Decl) { d.Module = "" },
		func(d *api.Decl) { d.Params = []api.Param{{Name: "x"}, {Name: "X"}} },
		func(d *api.Decl) { d.Params[0].Name = "X" },
		func(d *api.Decl) { d.Name = "A" },
		func(d *api.Decl) { d.Params[0].Name = "Y" },
		func(d *api.Decl) { d.Lower = nothing },
		func(d *api.Decl) { d.Upper = anything },
		func(d *api.Decl) { d.Type = text })
	start = api.Decl{Kind: api.DeclValue, Name: "A", Exported: true, Note: strings.Repeat("x", api.MaxText+1), Type: same, Expr: operation("="), Params: []api.Param{{Name: "X", Bound: bad}, {Name: "X", Bound: arg}}}
	ladder(t, start, checkDecl, []api.Errno{api.ErrArg, api.ErrTooLarge, api.ErrName, api.ErrExists, api.ErrExists, api.ErrName, api.ErrArg, api.ErrArg},
		func(d *api.Decl) { d.Deprecated = true },
		func(d *api.Decl) { d.Note = "" },
		func(d *api.Decl) { d.Name = "a" },
		func(d *api.Decl) { d.Params[1].Name = "Y" },
		func(d *api.Decl) { d.Type = text },
		func(d *api.Decl) { d.Params[0].Bound = text },
		func(d *api.Decl) { d.Params[1].Bound = text },
		func(d *api.Decl) { d.Expr = number(1) })
}

// P4.2: the path and the imports of a module.
func TestHeads(t *testing.T) {
	for _, path := range append(notModules, "a", "") {
		check(t, api.Module{Path: path}, -1, api.ErrName)
		check(t, api.Module{Path: "a/v1", Imports: []api.Import{{Path: path, Alias: "a"}}}, -1, api.ErrName)
	}
	for _, alias := range notNames {
		check(t, api.Module{Path: "a/v1", Imports: []api.Import{{Path: "b/v1", Alias: "b"}, {Path: "c/v1", Alias: alias}}}, -1, api.ErrName)
	}
	b, c := api.Import{Path: "b/v1", Alias: "b"}, api.Import{Path: "c/v1", Alias: "c"}
	for i, x := range []struct {
		imports []api.Import
		want    api.Errno
	}{
		{[]api.Import{b, c}, api.OK}, {[]api.Import{c, b}, api.OK}, {[]api.Import{b, b}, api.ErrExists}, {[]api.Import{b, {Path: "b/v1", Alias: "c"}}, api.ErrExists}, {[]api.Import{b, {Path: "c/v1", Alias: "b"}}, api.ErrExists},
		{[]api.Import{b, c, {Path: "d/v1", Alias: "b"}}, api.ErrExists}, {[]api.Import{b, {Path: "b/v2", Alias: "b2"}}, api.OK}, {[]api.Import{b, {Path: "a/v1", Alias: "a"}}, api.ErrLoop}, {[]api.Import{{Path: "a/v1", Alias: "A"}}, api.ErrName},
		{[]api.Import{b, {Path: "a/v1", Alias: "b"}}, api.ErrLoop}, {[]api.Import{b, b, {Path: "a/v1", Alias: "a"}}, api.ErrExists}, {[]api.Import{{Path: "a/v1", Alias: "a"}, b, b}, api.ErrLoop}, {[]api.Import{b, b, {}}, api.ErrExists}, {[]api.Import{{}, b, b}, api.ErrName}, {[]api.Import{b, {Path: "b/v1", Alias: "B"}}, api.ErrName},
	} {
		index := 0
		if x.want != api.OK {
			index = -1
		}
		if got, err := syntax.CheckModule(api.Module{Path: "a/v1", Imports: x.imports}); got != index || err != x.want {
			t.Errorf("the imports %d have the error %d with the index %d, not %d", i, err, got, x.want)
		}
		check(t, api.Module{Path: "a/v1", Imports: x.imports, Decls: []api.Decl{{Kind: -1}}}, index, map[bool]api.Errno{true: api.ErrArg, false: x.want}[x.want == api.OK])
	}
}

// P4.2: the limits of modules, which are looked for in front of their imports and declarations.
func TestLimitsOfModules(t *testing.T) {
	var imports []api.Import
	for _, name := range names(api.MaxImports + 1) {
		imports = append(imports, api.Import{Path: name + "/v1", Alias: name})
	}
	var decls []api.Decl
	for _, name := range names(api.MaxDecls + 1) {
		decls = append(decls, api.Decl{Kind: api.DeclUse, Name: name, Module: "m", Target: "a"})
	}
	check(t, api.Module{Path: "a/v1", Imports: imports[1:], Decls: decls[1:]}, 0, api.OK)
	check(t, api.Module{Path: "a/v1", Imports: imports}, -1, api.ErrTooLarge)
	check(t, module(decls...), -1, api.ErrTooLarge)
	check(t, api.Module{Imports: imports, Decls: decls}, -1, api.ErrName)
	check(t, api.Module{Path: "a/v1", Imports: make([]api.Import, api.MaxImports+1)}, -1, api.ErrTooLarge)
	check(t, module(make([]api.Decl, api.MaxDecls+1)...), -1, api.ErrTooLarge)
	check(t, module(make([]api.Decl, api.MaxDecls)...), 0, api.ErrName)
	typeDecl := func(size int) api.Decl {
		return api.Decl{Kind: api.DeclType, Name: "A", Lower: bigType(size), Upper: bigType(size), Type: bigType(size)}
	}
	value := func(size, bound, kids int) api.Decl {
		return api.Decl{Kind: api.DeclValue, Name: "a", Type: bigType(size), Params: []api.Param{{Name: "X", Bound: bigType(bound)}}, Expr: elements(text, numbers(kids)...)}
	}
	check(t, module(typeDecl(api.MaxNodes-2)), 0, api.OK)
	check(t, module(typeDecl(api.MaxNodes-1)), -1, api.ErrTooLarge)
	check(t, module(value(1000, 1000, api.MaxNodes-2005)), 0, api.OK)
	for _, m := range []api.Module{module(value(1001, 1000, api.MaxNodes-2005)), module(value(1000, 1001, api.MaxNodes-2005)), module(value(1000, 1000, api.MaxNodes-2004)), module(decls[0], value(1000, 1000, api.MaxNodes-2005)), module(value(1000, 1000, api.MaxNodes-2005), typeDecl(1))} {
		check(t, m, -1, api.ErrTooLarge)
		m.Imports = make([]api.Import, 2)
		check(t, m, -1, api.ErrTooLarge)
	}
	check(t, api.Module{Path: "a/v1", Imports: imports[:1], Decls: []api.Decl{typeDecl(api.MaxNodes - 3)}}, 0, api.OK)
	check(t, api.Module{Path: "a/v1", Imports: imports[:1], Decls: []api.Decl{typeDecl(api.MaxNodes - 2)}}, -1, api.ErrTooLarge)
	big := bigType(2 * api.MaxNodes)
	for _, d := range []api.Decl{{Kind: api.DeclType, Type: big, Lower: big, Upper: big}, {Kind: api.DeclType, Type: big}, {Kind: api.DeclType, Lower: big}, {Kind: api.DeclType, Upper: big}, {Kind: api.DeclValue, Type: big}, {Kind: api.DeclValue, Expr: ascribe(ascribe(number(1), big), big)},
		{Kind: api.DeclValue, Params: []api.Param{{Bound: big}, {Bound: big}}, Type: big, Expr: elements(big)}, {Kind: api.DeclValue, Expr: api.Expr{Kind: api.ExprFunc, Types: []api.Type{big, big}, Labels: []api.Label{{Type: big}, {Type: big}}, Kids: []api.Expr{elements(big)}}}} {
		check(t, module(d, d), -1, api.ErrTooLarge)
	}
	abstract := typeDecl(1000)
	abstract.Upper = bigType(1001)
	check(t, module(abstract, value(1000, 80, 7)), 0, api.OK)
	abstract.Lower = bigType(1003)
	check(t, module(abstract, value(1000, 80, 7)), -1, api.ErrTooLarge)
}

// P4.2: all limits of a declaration hold at once for a module that is not too large.
func TestBigModule(t *testing.T) {
	m := module(goodDecls()...)
	for i, name := range names(api.MaxDecls - len(m.Decls)) {
		m.Decls = append(m.Decls, api.Decl{Kind: api.DeclValue, Name: name, Exported: i%2 == 0, Deprecated: i%4 == 0, Type: deepType(api.MaxDepth, text), Expr: elements(text, deepExpr(api.MaxDepth-1, local("a")))})
	}
	if size := syntax.ModuleSize(m); size != 1+8+8+1+61*66 {
		t.Errorf("the size is %d", size)
	}
	check(t, m, 0, api.OK)
	m.Decls[63].Expr.Kids[0].Name = "nor"
	check(t, m, 63, api.ErrArg)
	m.Decls[17].Expr.Types[0] = variable("x")
	check(t, m, 17, api.ErrName)
}

// P4.2, P4.5: types that have their forms, the parts of which have their forms.
func TestPartsHaveForms(t *testing.T) {
	r := rand.New(rand.NewSource(8))
	var check func(x api.Type)
	check = func(x api.Type) {
		checkTypes(t, api.OK, x)
		for _, part := range x.Args {
			check(part)
		}
		for _, part := range x.Fields {
			check(part.Type)
		}
	}
	for range 1000 {
		x := formed(r, 4)
		check(x)
		check(syntax.Substitute(x, []string{"A", "#0"}, []api.Type{formed(r, 2), formed(r, 2)}))
		checkExprs(t, api.OK, ascribe(number(1), x), elements(x))
	}
	for range 30000 {
		if x := random[api.Type](r, 4); syntax.CheckType(x) == api.OK {
			check(x)
		}
		if e := random[api.Expr](r, 4); syntax.CheckExpr(e) == api.OK {
			checkTypes(t, api.OK, e.Types...)
			checkExprs(t, api.OK, e.Kids...)
		}
	}
}

// P4.2, P3: an error depends on the tree alone, and looking for it changes nothing.
func TestErrorsAreRepeated(t *testing.T) {
	r := rand.New(rand.NewSource(9))
	for range 2000 {
		x, e, m := random[api.Type](r, 6), random[api.Expr](r, 6), random[api.Module](r, 6)
		x2, e2, m2 := duplicate(x, false), duplicate(e, true), duplicate(m, false)
		i, err := syntax.CheckModule(m)
		j, again := syntax.CheckModule(m2)
		if syntax.CheckType(x) != syntax.CheckType(x2) || syntax.CheckExpr(e) != syntax.CheckExpr(e2) || i != j || err != again {
			t.Fatalf("%v, %v or %v has two errors", x, e, m)
		}
		if !same(x, x2) || !same(e, e2) || !reflect.DeepEqual(duplicate(m, false), m2) {
			t.Fatalf("%v, %v or %v has changed", x, e, m)
		}
	}
}
