package evaluate_test

import (
	"math/rand"
	"slices"
	"strconv"
	"strings"
	"sync"
	"testing"

	"modcert/api"
	"modcert/evaluate"
)

// P14.3: the uses of an evaluation, in the order of their first evaluations, each once, up to an error.
func TestTrace(t *testing.T) {
	p := program(`module a/v1
		let one: int = 1
		export let two: int = one + one
		export let f: fn(x?: int) int = fn(x: int = two) => x
		export let bad: int = one + true
	`, `module b/v1 import a/v1 as a
		use a::two as second
		use a::zz as missing
		let v0: int = second * a::two
		let v1: int = if[int] true or a::two == 1 then a::one else second
		let v2: int = if[int] false then a::one else second
		let v3: int = match[int] <c: a::one> {c x => x, d x => a::two}
		let v4: fn() int = fn() => a::two
		let v5: int = a::f(x: 1)
		let v6: int = a::f()
		let v7: int = a::one + a::bad + second
		let v8: int = a::one + missing
		let v9: int = (fn(x: int) => a::two)(y: a::one)
		let w0: int = let x = a::one in 1 + true + second
		let w1: int = fold[int] e, s in [int|] from a::one => a::two
		let w2: int = (v1 : int) + v3 + v1
	`)
	for _, c := range []struct {
		module, name, want string
		err                api.Errno
	}{
		{"a/v1", "one", "a/v1 one", api.OK},
		{"a/v1", "two", "a/v1 two, a/v1 one", api.OK},
		{"b/v1", "second", "a/v1 two, a/v1 one", api.OK},
		{"b/v1", "v0", "b/v1 v0, a/v1 two, a/v1 one", api.OK},
		{"b/v1", "v1", "b/v1 v1, a/v1 one", api.OK},
		{"b/v1", "v2", "b/v1 v2, a/v1 two, a/v1 one", api.OK},
		{"b/v1", "v3", "b/v1 v3, a/v1 one", api.OK},
		{"b/v1", "v4", "b/v1 v4", api.OK},
		{"b/v1", "v5", "b/v1 v5, a/v1 f", api.OK},
		{"b/v1", "v6", "b/v1 v6, a/v1 f, a/v1 two, a/v1 one", api.OK},
		{"a/v1", "bad", "a/v1 bad, a/v1 one", api.ErrType},
		{"b/v1", "v7", "b/v1 v7, a/v1 one, a/v1 bad", api.ErrType},
		{"b/v1", "v8", "b/v1 v8, a/v1 one", api.ErrNotFound},
		{"b/v1", "v9", "b/v1 v9, a/v1 one", api.ErrType},
		{"b/v1", "w0", "b/v1 w0, a/v1 one", api.ErrType},
		{"b/v1", "w1", "b/v1 w1, a/v1 one", api.OK},
		{"b/v1", "w2", "b/v1 w2, b/v1 v1, a/v1 one, b/v1 v3", api.OK},
		{"b/v1", "missing", "", api.ErrNotFound},
		{"z/v1", "one", "", api.ErrNotFound},
	} {
		uses, err := evaluate.Trace(p, c.module, c.name)
		if usesText(uses) != c.want || err != c.err {
			t.Errorf("%s %s: %s %s", c.module, c.name, usesText(uses), errorName(err))
		}
	}
	if uses, err := evaluate.Trace(chain(64, "v"), "f63/v1", "v"); usesText(uses) != "m/v1 v" || err != api.OK {
		t.Error(usesText(uses), errorName(err))
	}
	if uses, err := evaluate.Trace(chain(65, "v"), "f64/v1", "v"); len(uses) > 0 || err != api.ErrLoop {
		t.Error(usesText(uses), errorName(err))
	}
	if uses, err := evaluate.Trace(declared(global("m/v1", "v")), "m/v1", "v"); usesText(uses) != "m/v1 v" || err != api.ErrLimit {
		t.Error(usesText(uses), errorName(err))
	}
}

// P14.3: there are as many uses as values.
func TestManyUses(t *testing.T) {
	source := "module m/v1 let v0: int = 1 "
	want := "m/v1 v63"
	for i := range 63 {
		source += "let v" + strconv.Itoa(i+1) + ": int = v" + strconv.Itoa(i) + " "
		want += ", m/v1 v" + strconv.Itoa(62-i)
	}
	if uses, err := evaluate.Trace(program(source), "m/v1", "v63"); usesText(uses) != want || err != api.OK {
		t.Error(usesText(uses), errorName(err))
	}
}

// P14.4: modules that are not used do not matter, nor do ascriptions and types, nor the order of the modules.
func TestWhatDoesNotMatter(t *testing.T) {
	t.Parallel()
	r := rand.New(rand.NewSource(144))
	for range 300 {
		p := rightProgram(r)
		if r.Intn(2) == 0 {
			p = otherwise(r, p)
		}
		bare := changedProgram(p, func(e api.Expr) api.Expr {
			if e.Kind == api.ExprAscribe {
				return e.Kids[0]
			}
			for i := range e.Types {
				e.Types[i] = api.Type{Kind: api.TypeRef, Module: "z/v1", Name: "Any"}
			}
			if r.Intn(3) > 0 || len(e.Kids) == 0 {
				return e
			}
			return api.Expr{Kind: api.ExprAscribe, Types: []api.Type{{Kind: api.TypeText}}, Kids: []api.Expr{e}}
		})
		for i := range bare {
			for k := range bare[i].Decls {
				if d := &bare[i].Decls[k]; d.Kind == api.DeclValue {
					d.Params, d.Type = nil, api.Type{Kind: api.TypeNone}
				}
			}
		}
		for _, use := range valuesOf(p) {
			v, steps, err := evaluate.Run(p, use.Module, use.Name)
			uses, _ := evaluate.Trace(p, use.Module, use.Name)
			check := func(what string, p api.Program) {
				other, otherSteps, otherErr := evaluate.Run(p, use.Module, use.Name)
				otherUses, _ := evaluate.Trace(p, use.Module, use.Name)
				if evaluate.Show(other) != evaluate.Show(v) || otherSteps != steps || otherErr != err || !same(uses, otherUses) {
					t.Fatalf("%s: %+v\n%+v", what, p, use)
				}
			}
			check("types", bare)
			check("another module", append(p[:len(p):len(p)], program("module z/v1 let v: int = 1")...))
			if err == api.OK {
				used := slices.DeleteFunc(slices.Clone(p), func(m api.Module) bool {
					for _, other := range append(uses, use) {
						if other.Module == m.Path {
							return false
						}
					}
					return true
				})
				// Modules with facades alone may be on the way.
				if _, _, err := evaluate.Run(used, use.Module, use.Name); err == api.OK {
					check("fewer modules", used)
				}
			}
			reversed := slices.Clone(p)
			slices.Reverse(reversed)
			check("order", reversed)
		}
	}
}

// P14.4: a facade has the value of its end, with the same number of steps.
func TestFacades(t *testing.T) {
	t.Parallel()
	r := rand.New(rand.NewSource(1441))
	for range 300 {
		p := rightProgram(r)
		for _, use := range valuesOf(p) {
			v, steps, err := evaluate.Run(p, use.Module, use.Name)
			facade := api.Program{{Path: "z/v1", Decls: []api.Decl{{Kind: api.DeclUse, Name: "f", Module: use.Module, Target: use.Name}}}}
			if use.Name < "a" {
				facade[0].Decls[0].Name = "F"
			}
			other, otherSteps, otherErr := evaluate.Run(append(facade, p...), "z/v1", facade[0].Decls[0].Name)
			if evaluate.Show(other) != evaluate.Show(v) || otherSteps != steps || otherErr != err {
				t.Fatalf("%+v\n%+v", p, use)
			}
		}
	}
}

// P14.4: a program whose modules are right never has an error but ErrLimit and ErrTooLarge.
func TestRightPrograms(t *testing.T) {
	t.Parallel()
	r := rand.New(rand.NewSource(1442))
	count := 0
	for range 700 {
		p := rightProgram(r)
		for _, use := range valuesOf(p) {
			if use.Name < "a" {
				continue // a type
			}
			count++
			if _, _, err := evaluate.Run(p, use.Module, use.Name); err != api.OK && err != api.ErrLimit && err != api.ErrTooLarge {
				t.Fatalf("%+v\n%+v: %s", p, use, errorName(err))
			}
		}
	}
	if count < 500 {
		t.Error("only", count, "values")
	}
}

// P1: all functions end, whatever they are given.
func TestEnds(t *testing.T) {
	t.Parallel()
	r := rand.New(rand.NewSource(1))
	within(t, "a call", func() {
		for range 2000 {
			p := random[api.Program](r, 7)
			evaluate.Run(p, "a/v1", "a")
			evaluate.Trace(p, "a/v1", "a")
			evaluate.Show(random[api.Value](r, 7))
			evaluate.Run(declared(random[api.Expr](r, 5)), "m/v1", "v")
		}
		deep := api.Expr{}
		for range 1 << 16 {
			deep = api.Expr{Kind: api.ExprInject, Name: "c", Kids: []api.Expr{deep}}
		}
		if _, _, err := evaluate.Run(declared(deep), "m/v1", "v"); err != api.ErrArg {
			t.Error(errorName(err))
		}
		// All steps can be one in the other.
		f := api.Expr{Kind: api.ExprCall, Labels: []api.Label{{Name: "a"}}, Kids: []api.Expr{global("m/v1", "v"), {Kind: api.ExprRecord}}}
		e := api.Expr{Kind: api.ExprFunc, Labels: []api.Label{{Name: "a"}}, Kids: []api.Expr{f}}
		p := declared(e)
		p[0].Decls = append(p[0].Decls, api.Decl{Kind: api.DeclValue, Name: "w", Expr: f})
		if _, steps, err := evaluate.Run(p, "m/v1", "w"); steps != api.MaxSteps || err != api.ErrLimit {
			t.Error(steps, errorName(err))
		}
	})
}

// P2, P3: the results depend on the arguments alone, which are neither changed nor shared, also if several goroutines call at once.
func TestSharedUse(t *testing.T) {
	r := rand.New(rand.NewSource(3))
	for range 30 {
		p := rightProgram(r)
		before := duplicate(p)
		for _, use := range valuesOf(p) {
			v, steps, err := evaluate.Run(p, use.Module, use.Name)
			uses, _ := evaluate.Trace(p, use.Module, use.Name)
			shown := evaluate.Show(v)
			var group sync.WaitGroup
			for range 4 {
				group.Add(1)
				go func() {
					defer group.Done()
					again, steps2, err2 := evaluate.Run(p, use.Module, use.Name)
					uses2, _ := evaluate.Trace(p, use.Module, use.Name)
					if !same(again, v) || steps2 != steps || err2 != err || !same(uses2, uses) || evaluate.Show(v) != shown {
						t.Error("other results")
					}
				}()
			}
			group.Wait()
			checkApart(t, "a value", v, p)
		}
		if !same(p, before) {
			t.Fatal("the program is changed")
		}
	}
}

// P3: results share no memory with the program: neither names nor the labels of functions.
func TestLaterChanges(t *testing.T) {
	p := valued(`{a: fn(x: {y: int}, z: list[text] = [text|]) => x, b: [int| 1, 2], c: <d: "e">, f: {g: true}}`)
	v, _, err := evaluate.Run(p, "m/v1", "v")
	if err != api.OK {
		t.Fatal(errorName(err))
	}
	checkApart(t, "a value", v, p)
	before := duplicate(v)
	var scramble func(e *api.Expr)
	scramble = func(e *api.Expr) {
		for i := range e.Labels {
			e.Labels[i].Name = strings.Repeat("x", i)
			for k := range e.Labels[i].Type.Fields {
				e.Labels[i].Type.Fields[k].Name = "changed"
			}
			for k := range e.Labels[i].Type.Args {
				e.Labels[i].Type.Args[k].Kind = 99
			}
		}
		for i := range e.Kids {
			scramble(&e.Kids[i])
		}
	}
	scramble(&p[0].Decls[0].Expr)
	if !same(v, before) {
		t.Error("the value has changed")
	}
}
