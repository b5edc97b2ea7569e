package evaluate_test

import (
	"math"
	"math/rand"
	"strconv"
	"strings"
	"testing"

	"modcert/api"
	"modcert/evaluate"
)

// outcome is an expression with the text of its value, its steps and its error.
type outcome struct {
	expression, text string
	steps            int
	err              api.Errno
}

func checkOutcomes(t *testing.T, cases []outcome) {
	t.Helper()
	for _, c := range cases {
		v, steps, err := evaluate.Run(valued(c.expression), "m/v1", "v")
		if err != c.err || steps != c.steps {
			t.Errorf("%s: %s, %d steps, not %s, %d", c.expression, errorName(err), steps, errorName(c.err), c.steps)
		}
		if err == api.OK && evaluate.Show(v) != c.text {
			t.Errorf("%s: %s, not %s", c.expression, evaluate.Show(v), c.text)
		}
		if err != api.OK && !same(v, api.Value{}) {
			t.Errorf("%s: a value with an error", c.expression)
		}
	}
}

// P14.1: the kinds of expressions, with their steps, which are counted in front of their parts.
func TestKinds(t *testing.T) {
	checkOutcomes(t, []outcome{
		{"5", "5", 1, api.OK},
		{"-7", "-7", 1, api.OK},
		{"-9223372036854775808", "-9223372036854775808", 1, api.OK},
		{`"a\n\x00"`, `"a\n\x00"`, 1, api.OK},
		{"true", "true", 1, api.OK},
		{"false", "false", 1, api.OK},
		{"{}", "{}", 1, api.OK},
		{"{b: 1, a: {c: 2}}", "{a: {c: 2}, b: 1}", 4, api.OK},
		{"{a: 1, b: 2}.b", "2", 4, api.OK},
		{"{a: {b: 3}}.a.b", "3", 5, api.OK},
		{"{a: 1}.b", "", 3, api.ErrType},
		{"(1).a", "", 2, api.ErrType},
		{"<a: 1>.a", "", 3, api.ErrType},
		{"<c: 1>", "<c: 1>", 2, api.OK},
		{"fn(b: int = 2, a: int) => {}.z", "fn(a, b)", 1, api.OK},
		{"fn() => 1", "fn()", 1, api.OK},
		{"let x = 2 in x * x + 1", "5", 7, api.OK},
		{"let x = 1 in let x = x + 1 in x", "2", 7, api.OK},
		{"let x = {}.a in 1", "", 3, api.ErrType},
		{"(1 : text)", "1", 1, api.OK},
		{"(((1 : text) : int) : {}) + (2 : int)", "3", 3, api.OK},
		{"if[int] true then 1 else {}.a", "1", 3, api.OK},
		{"if[int] false then {}.a else 2", "2", 3, api.OK},
		{"if[int] 1 then 2 else 3", "", 2, api.ErrType},
		{"if[int] {}.a then 2 else 3", "", 3, api.ErrType},
		{"match[int] <c: 5> {c x => x + 1, d y => 0}", "6", 6, api.OK},
		{"match[int] <d: 5> {c x => x + 1, d y => y}", "5", 4, api.OK},
		{"match[int] <e: 5> {c x => 1, d y => 2}", "", 3, api.ErrType},
		{"match[int] {} {}", "", 2, api.ErrType},
		{"match[int] {c: 1} {c x => 1}", "", 3, api.ErrType},
		{"let x = 1 in match[int] <c: 2> {c x => x}", "2", 6, api.OK},
		{"[int|]", "[]", 1, api.OK},
		{"[int| 1, true, [int| 2]]", "[1, true, [2]]", 5, api.OK},
		{"[int| 1, {}.a, 2]", "", 4, api.ErrType},
		{"{b: \"\", a: [int| 1]}", "{a: [1], b: \"\"}", 4, api.OK},
	})
}

// P14.1: calls: all kids, and then the defaults of the parameters without arguments, and then the body.
func TestCalls(t *testing.T) {
	checkOutcomes(t, []outcome{
		{"(fn(a: int) => a + 1)(a: 2)", "3", 6, api.OK},
		{"(fn() => 1)()", "1", 3, api.OK},
		{"(fn(a: int, b: int = 10) => a + b)(a: 1)", "11", 7, api.OK},
		{"(fn(a: int, b: int = {}.z) => a + b)(a: 1, b: 2)", "3", 7, api.OK},
		{"(fn(a: int = 1, b: int = 2, c: int = 3) => {a: a, b: b, c: c})(b: 5)", "{a: 1, b: 5, c: 3}", 9, api.OK},
		{"(fn(a: int = 1, b: int, c: int = 3) => {a: a, b: b, c: c})(a: 7, b: 5)", "{a: 7, b: 5, c: 3}", 9, api.OK},
		// The variables of a function are those of the place where it was made; those of defaults too.
		{"let y = 1 in let f = fn(a: int = y) => {a: a, y: y} in let y = 2 in f()", "{a: 1, y: 1}", 12, api.OK},
		{"let a = 5 in (fn(a: int, b: int = a) => b)(a: 1)", "5", 7, api.OK},
		{"let f = fn(x: int) => fn(y: int) => x - y in {p: f(x: 10)(y: 3), q: f(x: 1)(y: 1)}", "{p: 7, q: 0}", 21, api.OK},
		// Arguments that have no parameter, and parameters without arguments, behind the values of all kids.
		{"1(a: 2)", "", 3, api.ErrType},
		{"1(a: {}.z)", "", 4, api.ErrType},
		{"{}(a: 1, b: 2)", "", 4, api.ErrType},
		{"(fn(a: int) => a)()", "", 2, api.ErrType},
		{"(fn(a: int) => a)(b: 1)", "", 3, api.ErrType},
		{"(fn(a: int) => a)(a: 1, b: 2)", "", 4, api.ErrType},
		{"(fn(a: int = 1) => a)(b: 2)", "", 3, api.ErrType},
		{"(fn(a: int = 1, b: int) => a)(a: 2)", "", 3, api.ErrType},
		{"(fn(a: int = 1, b: int) => a)(c: 2)", "", 3, api.ErrType},
		// The first error decides: of the function, of the arguments in order, of the defaults in order, of the body.
		{"{}.z(a: 1)", "", 3, api.ErrType},
		{"(fn(a: int, b: int) => a)(a: {}.z, b: 1)", "", 4, api.ErrType},
		{"(fn(a: int, b: int) => a)(a: 1, b: {}.z)", "", 5, api.ErrType},
		{"(fn(a: int = {}.z, b: int = 1) => a)()", "", 4, api.ErrType},
		{"(fn(a: int = 1, b: int = {}.z) => 1 + true)()", "", 5, api.ErrType},
		{"(fn(a: int = 1, b: int = {}.z) => 1 + true)(b: 1)", "", 7, api.ErrType},
	})
}

// P14.1: folds.
func TestFolds(t *testing.T) {
	checkOutcomes(t, []outcome{
		{"fold[int] e, s in [int| 1, 2, 3] from 0 => s * 10 + e", "123", 21, api.OK},
		{"fold[int] e, s in [int| 1, 2] from 10 => e", "2", 7, api.OK},
		{"fold[int] e, s in [int|] from 10 => {}.z", "10", 3, api.OK},
		{"let e = 1 in let s = 2 in fold[int] e, s in [int| 5] from s => s + e", "7", 11, api.OK},
		{"let e = 1 in fold[int] s, x in [int| 5] from 0 => x + e + s", "6", 11, api.OK},
		{"fold[int] e, s in 1 from {}.z => 0", "", 2, api.ErrType},
		{"fold[int] e, s in {}.z from 1 => 0", "", 3, api.ErrType},
		{"fold[int] e, s in [int| 1] from {}.z => 1 + true", "", 5, api.ErrType},
		{"fold[int] e, s in [int| 1, 2] from 0 => e.z", "", 7, api.ErrType},
		{"fold[any] e, s in [int| 1, 2] from {} => {p: s}", "{p: {p: {}}}", 9, api.OK},
	})
}

// P14.1: the operators: their operands in order, each of which must have its kind, and and and or look at the second one only if the first one does not decide.
func TestOperators(t *testing.T) {
	checkOutcomes(t, []outcome{
		{"2 + 3", "5", 3, api.OK},
		{"2 - 3", "-1", 3, api.OK},
		{"2 * -3", "-6", 3, api.OK},
		{"2 < 3", "true", 3, api.OK},
		{"3 < 3", "false", 3, api.OK},
		{"-1 < 0", "true", 3, api.OK},
		{"0 < -1", "false", 3, api.OK},
		{"3 == 3", "true", 3, api.OK},
		{"3 == 4", "false", 3, api.OK},
		{`"a" === "a"`, "true", 3, api.OK},
		{`"a" === "b"`, "false", 3, api.OK},
		{`"a" ++ "b"`, `"ab"`, 3, api.OK},
		{`length "a\xe9\x00"`, "3", 2, api.OK},
		{`length ""`, "0", 2, api.OK},
		{"not true", "false", 2, api.OK},
		{"not false", "true", 2, api.OK},
		{"true and true", "true", 3, api.OK},
		{"true and false", "false", 3, api.OK},
		{"false and {}.z", "false", 2, api.OK},
		{"true or {}.z", "true", 2, api.OK},
		{"false or true", "true", 3, api.OK},
		{"false or false", "false", 3, api.OK},
		// Integers have 64 bits.
		{"9223372036854775807 + 1", strconv.Itoa(math.MinInt), 3, api.OK},
		{"-9223372036854775808 - 1", strconv.Itoa(math.MaxInt), 3, api.OK},
		{"-9223372036854775808 * -1", strconv.Itoa(math.MinInt), 3, api.OK},
		{"4294967296 * 4294967296", "0", 3, api.OK},
		{"-9223372036854775808 < 9223372036854775807", "true", 3, api.OK},
		// An operand of another kind is found behind its evaluation.
		{"true + {}.z", "", 2, api.ErrType},
		{"1 + true", "", 3, api.ErrType},
		{"1 + {}.z", "", 4, api.ErrType},
		{`"" - 1`, "", 2, api.ErrType},
		{`1 * ""`, "", 3, api.ErrType},
		{"true < 1", "", 2, api.ErrType},
		{"1 == true", "", 3, api.ErrType},
		{"{} == {}", "", 2, api.ErrType},
		{"1 === 1", "", 2, api.ErrType},
		{`"" === 1`, "", 3, api.ErrType},
		{`1 ++ {}.z`, "", 2, api.ErrType},
		{`"" ++ 1`, "", 3, api.ErrType},
		{"length 1", "", 2, api.ErrType},
		{"length [int| 1]", "", 3, api.ErrType},
		{"not 1", "", 2, api.ErrType},
		{"1 and true", "", 2, api.ErrType},
		{"true and 1", "", 3, api.ErrType},
		{`"" or true`, "", 2, api.ErrType},
		{"false or 0", "", 3, api.ErrType},
	})
}

// P14.1: strings have at most MaxText bytes, and lists at most MaxList items, which are all evaluated before.
func TestSizes(t *testing.T) {
	doubled := `let s0 = "0123456789abcdef" in `
	for i := range 12 {
		doubled += "let s" + strconv.Itoa(i+1) + " = s" + strconv.Itoa(i) + " ++ s" + strconv.Itoa(i) + " in "
	}
	steps := 2 + 12*4
	items := strings.Repeat("1, ", api.MaxList-1)
	checkOutcomes(t, []outcome{
		{doubled + "length s12", "65536", steps + 2, api.OK},
		{doubled + `length (s12 ++ "")`, "65536", steps + 4, api.OK},
		{doubled + `s12 ++ "a"`, "", steps + 3, api.ErrTooLarge},
		{doubled + `"a" ++ s12`, "", steps + 3, api.ErrTooLarge},
		{doubled + "s12 ++ s12", "", steps + 3, api.ErrTooLarge},
		{doubled + "s12 ++ 1", "", steps + 3, api.ErrType},
		{"fold[int] e, s in [int| " + items + "1] from 0 => s + e", "1024", 3 + 4*api.MaxList, api.OK},
		{"[int| " + items + "1, 2]", "", api.MaxList + 2, api.ErrTooLarge},
		{"[int| " + items + "1, {}.z]", "", api.MaxList + 3, api.ErrType},
	})
}

// P14.1: a value of a program: private or not, with or without variables, over facades. Expressions of values have no local variables.
func TestValuesOfPrograms(t *testing.T) {
	p := program(`module a/v1
		export type T = int
		let secret: int = 5
		export let id[X]: fn(x: X) X = fn(x: X) => x
		export let twice: int = secret + secret
	`, `module b/v1 import a/v1 as a
		use a::twice as ten
		use a::T as U
		use a::zz as missing
		let sum: int = ten + a::id[int](x: 1)
		let x: int = let y = 1 in ten
	`, `module c/v1 import b/v1 as b import z/v1 as z
		use b::ten as ten
		use b::missing as missing
		use z::v as lost
		let v: int = z::v
		let w: int = b::missing
		let u: int = 1 + b::zz
	`)
	for _, c := range []struct {
		module, name, text string
		steps              int
		err                api.Errno
	}{
		{"a/v1", "secret", "5", 1, api.OK},
		{"a/v1", "id", "fn(x)", 1, api.OK},
		{"a/v1", "twice", "10", 5, api.OK},
		{"b/v1", "ten", "10", 5, api.OK},
		{"c/v1", "ten", "10", 5, api.OK},
		{"b/v1", "sum", "11", 1 + 6 + 5, api.OK},
		{"b/v1", "x", "10", 8, api.OK},
		{"z/v1", "v", "", 0, api.ErrNotFound},
		{"", "", "", 0, api.ErrNotFound},
		{"a/v1", "zz", "", 0, api.ErrNotFound},
		{"a/v1", "T", "", 0, api.ErrNotFound},
		{"b/v1", "U", "", 0, api.ErrNotFound},
		{"b/v1", "missing", "", 0, api.ErrNotFound},
		{"c/v1", "missing", "", 0, api.ErrNotFound},
		{"c/v1", "lost", "", 0, api.ErrNotFound},
		{"c/v1", "v", "", 1, api.ErrNotFound},
		{"c/v1", "w", "", 1, api.ErrNotFound},
		{"c/v1", "u", "", 3, api.ErrNotFound},
	} {
		v, steps, err := evaluate.Run(p, c.module, c.name)
		if err != c.err || steps != c.steps || err == api.OK && evaluate.Show(v) != c.text || err != api.OK && !same(v, api.Value{}) {
			t.Errorf("%s %s: %s %d %s", c.module, c.name, evaluate.Show(v), steps, errorName(err))
		}
	}
	// A local variable of the place where a value is used is none of its own.
	m := program("module m/v1 let w: int = 1 let v: int = let x = 1 in w")[0]
	m.Decls[0].Expr = api.Expr{Kind: api.ExprLocal, Name: "x"}
	if _, steps, err := evaluate.Run(api.Program{m}, "m/v1", "v"); err != api.ErrNotFound || steps != 4 {
		t.Error(errorName(err), steps)
	}
	// A module is looked for by its path alone.
	for _, module := range []string{"", "a", "a/v2"} {
		q := append(declared(global(module, "v")), api.Module{Path: "a/v1", Decls: []api.Decl{{Kind: api.DeclValue, Name: "v"}}})
		if _, steps, err := evaluate.Run(q, "m/v1", "v"); err != api.ErrNotFound || steps != 1 {
			t.Error(module, errorName(err), steps)
		}
	}
}

// chain returns a program in which so many facades lead to a name of m/v1.
func chain(facades int, name string) api.Program {
	p := api.Program{{Path: "m/v1", Decls: []api.Decl{{Kind: api.DeclValue, Name: "v", Expr: api.Expr{Kind: api.ExprInt, Number: 7}}}}}
	target := "m/v1"
	for i := range facades {
		path := "f" + strconv.Itoa(i) + "/v1"
		p = append(p, api.Module{Path: path, Decls: []api.Decl{{Kind: api.DeclUse, Name: "v", Module: target, Target: name}}})
		target, name = path, "v"
	}
	return p
}

// P14.1: at most MaxModules facades are followed.
func TestLongWays(t *testing.T) {
	for _, c := range []struct {
		facades int
		name    string
		err     api.Errno
	}{
		{1, "v", api.OK}, {1, "w", api.ErrNotFound},
		{64, "v", api.OK}, {64, "w", api.ErrNotFound},
		{65, "v", api.ErrLoop}, {65, "w", api.ErrLoop}, {66, "v", api.ErrLoop},
	} {
		p := chain(c.facades, c.name)
		last := "f" + strconv.Itoa(c.facades-1) + "/v1"
		v, steps, err := evaluate.Run(p, last, "v")
		if err != c.err || err == api.OK && (v.Number != 7 || steps != 1) || err != api.OK && steps != 0 {
			t.Errorf("%d %s: %s", c.facades, c.name, errorName(err))
		}
		// The same in an expression.
		p = append(p, api.Module{Path: "u/v1", Decls: []api.Decl{{Kind: api.DeclValue, Name: "u", Expr: global(last, "v")}}})
		v, steps, err = evaluate.Run(p, "u/v1", "u")
		if err != c.err || err == api.OK && (v.Number != 7 || steps != 2) || err != api.OK && steps != 1 {
			t.Errorf("%d %s: %s", c.facades, c.name, errorName(err))
		}
	}
	// A facade of a type is no value, wherever it leads.
	types := chain(66, "v")
	for i := range types[1:] {
		d := &types[i+1].Decls[0]
		d.Name, d.Target = "T", "T"
	}
	if _, steps, err := evaluate.Run(types, "f65/v1", "T"); err != api.ErrNotFound || steps != 0 {
		t.Error(errorName(err), steps)
	}
	p := api.Program{
		{Path: "a/v1", Decls: []api.Decl{{Kind: api.DeclUse, Name: "v", Module: "b/v1", Target: "v"}}},
		{Path: "b/v1", Decls: []api.Decl{{Kind: api.DeclUse, Name: "v", Module: "a/v1", Target: "v"}}},
	}
	if _, steps, err := evaluate.Run(p, "a/v1", "v"); err != api.ErrLoop || steps != 0 {
		t.Error(errorName(err), steps)
	}
}

// P14.1: the step with the number MaxSteps + 1 is not made.
func TestLimit(t *testing.T) {
	// d12 has 4 * 2^12 - 3 steps.
	source := "module m/v1 let d0: int = 1 "
	for i := range 12 {
		d := "d" + strconv.Itoa(i)
		source += "let d" + strconv.Itoa(i+1) + ": int = " + d + " + " + d + " "
	}
	source += `let less: int = {a: d12}.a
		let exact: any = {a: (d12 : int), b: 1}
		let more: any = {a: d12, b: 1, c: 2}
		let wrong: any = {a: d12, b: true + 1}
		let late: any = {a: d12, b: 1 + true}
		let other: any = {a: d12, b: (1 : int)}
		let ascribed: any = {a: d12, b: 1, c: (2 : int)}`
	p := program(source)
	for _, c := range []struct {
		name  string
		steps int
		err   api.Errno
	}{
		{"d12", 16381, api.OK},
		{"less", 16384, api.OK},
		{"exact", 16384, api.OK},
		{"other", 16384, api.OK},
		{"more", 16384, api.ErrLimit},
		{"wrong", 16384, api.ErrLimit},
		{"late", 16384, api.ErrLimit},
		{"ascribed", 16384, api.ErrLimit},
	} {
		_, steps, err := evaluate.Run(p, "m/v1", c.name)
		if steps != c.steps || err != c.err {
			t.Errorf("%s: %s, %d steps", c.name, errorName(err), steps)
		}
	}
	// The last step that is made may have an error.
	q := program(source + " let type1: any = {a: d12, b: 1}.z let type2: any = not {a: d12}")
	if _, steps, err := evaluate.Run(q, "m/v1", "type2"); steps != 16384 || err != api.ErrType {
		t.Error(errorName(err), steps)
	}
	if _, steps, err := evaluate.Run(q, "m/v1", "type1"); steps != 16384 || err != api.ErrLimit {
		t.Error(errorName(err), steps)
	}
	// Values can use themselves in programs that are not right; ascriptions do not make it worse.
	e := global("m/v1", "v")
	for range 31 {
		e = api.Expr{Kind: api.ExprAscribe, Types: []api.Type{{}}, Kids: []api.Expr{e}}
	}
	for _, e := range []api.Expr{global("m/v1", "v"), e, {Kind: api.ExprInject, Name: "c", Kids: []api.Expr{global("m/v1", "v")}}} {
		if v, steps, err := evaluate.Run(declared(e), "m/v1", "v"); steps != api.MaxSteps || err != api.ErrLimit || !same(v, api.Value{}) {
			t.Error(errorName(err), steps)
		}
	}
}

// P14.1: ErrArg: a module without its form, or two with one path, also if nothing uses them.
func TestPrograms(t *testing.T) {
	right := program("module a/v1 let v: int = 1", "module b/v1 type T = int")
	for _, c := range []struct {
		p            api.Program
		module, name string
		err          api.Errno
	}{
		{nil, "a/v1", "v", api.ErrNotFound},
		{right, "a/v1", "v", api.OK},
		{append(right[:2:2], api.Module{Path: "c/v1"}), "a/v1", "v", api.OK},
		{append(right[:2:2], api.Module{Path: "c"}), "a/v1", "v", api.ErrArg},
		{append(right[:2:2], api.Module{Path: "b/v1"}), "a/v1", "v", api.ErrArg},
		{append(right[:2:2], right[0]), "a/v1", "v", api.ErrArg},
		{append(right[:2:2], api.Module{Path: "b/v1"}), "zz/v1", "v", api.ErrArg},
		{append(declared(api.Expr{Kind: 99}), right...), "a/v1", "v", api.ErrArg},
		{declared(api.Expr{Kind: api.ExprBool, Number: 2}), "m/v1", "v", api.ErrArg},
		{declared(api.Expr{Kind: api.ExprCall}), "m/v1", "v", api.ErrArg},
		{declared(api.Expr{Kind: api.ExprLocal, Name: "x"}), "m/v1", "v", api.ErrNotFound},
	} {
		v, steps, err := evaluate.Run(c.p, c.module, c.name)
		if err != c.err || err != api.OK && !same(v, api.Value{}) || err == api.ErrArg && steps != 0 {
			t.Errorf("%+v: %s", c.p, errorName(err))
		}
		uses, err := evaluate.Trace(c.p, c.module, c.name)
		if err != c.err || err == api.ErrArg && len(uses) > 0 {
			t.Errorf("%+v: %s", c.p, errorName(err))
		}
	}
}

// P14.1: the fields of values.
func TestFields(t *testing.T) {
	labels := []api.Label{{Name: "a", Type: api.Type{Kind: api.TypeList, Args: []api.Type{{Kind: api.TypeInt}}}}, {Name: "b", Type: api.Type{Kind: api.TypeText}, Optional: true}}
	one := api.Value{Kind: api.ValueInt, Number: 1}
	for _, c := range []struct {
		expression string
		want       api.Value
	}{
		{"1", one},
		{`"a"`, api.Value{Kind: api.ValueText, Text: "a"}},
		{"true", api.Value{Kind: api.ValueBool, Number: 1}},
		{"not true", api.Value{Kind: api.ValueBool}},
		{"1 < 2", api.Value{Kind: api.ValueBool, Number: 1}},
		{"[int| 1, 1]", api.Value{Kind: api.ValueList, Items: []api.Value{one, one}}},
		{"{b: {}, a: 1}", api.Value{Kind: api.ValueRecord, Names: []string{"a", "b"}, Items: []api.Value{one, {Kind: api.ValueRecord}}}},
		{"<c: 1>", api.Value{Kind: api.ValueVariant, Names: []string{"c"}, Items: []api.Value{one}}},
	} {
		if v, _, err := evaluate.Run(valued(c.expression), "m/v1", "v"); err != api.OK || !same(v, c.want) {
			t.Errorf("%s: %+v", c.expression, v)
		}
	}
	v, _, err := evaluate.Run(valued(`let y = 1 in fn(a: list[int], b: text = "") => y`), "m/v1", "v")
	if err != api.OK || v.Kind != api.ValueFunc || v.Number != 0 || v.Text != "" || len(v.Code) != 1 || v.Code[0].Kind != api.ExprFunc || !same(v.Code[0].Labels, labels) {
		t.Errorf("%+v", v)
	}
}

// P14.1, P14.3: the values, steps, uses and errors of random programs, right and wrong, are those of a direct implementation of the chapter.
func TestRandomPrograms(t *testing.T) {
	t.Parallel()
	r := rand.New(rand.NewSource(14))
	found := map[api.Errno]int{}
	kinds := map[int]int{}
	for i := range 700 {
		p := rightProgram(r)
		if i%3 > 0 {
			p = otherwise(r, p)
		}
		for _, use := range valuesOf(p) {
			want, wantSteps, wantUses, wantErr := naive(p, use.Module, use.Name)
			v, steps, err := evaluate.Run(p, use.Module, use.Name)
			if err != wantErr || steps != wantSteps || err == api.OK && !equal(v, want) || err != api.OK && !same(v, api.Value{}) {
				t.Fatalf("%+v\n%s %s: %s, %d steps, not %s, %d: %s", p, use.Module, use.Name, errorName(err), steps, errorName(wantErr), wantSteps, evaluate.Show(v))
			}
			uses, err := evaluate.Trace(p, use.Module, use.Name)
			if err != wantErr || !same(uses, wantUses) {
				t.Fatalf("%+v\n%s %s: %s, not %s, %s", p, use.Module, use.Name, usesText(uses), usesText(wantUses), errorName(err))
			}
			found[err]++
			if err == api.OK {
				kinds[v.Kind]++
			}
		}
	}
	for _, err := range []api.Errno{api.OK, api.ErrNotFound, api.ErrType} {
		if found[err] < 20 {
			t.Error("only", found[err], errorName(err))
		}
	}
	for kind := range api.ValueFunc + 1 {
		if kinds[kind] < 20 {
			t.Error("only", kinds[kind], "values of the kind", kind)
		}
	}
}
