package author_test

import (
	"math/rand"
	"reflect"
	"testing"

	"modcert/api"
	"modcert/author"
	"modcert/environ"
	"modcert/extract"
	"modcert/module"
	"modcert/sample"
	"modcert/scope"
)

// walk passes all expressions of a tree to a function.
func walk(e api.Expr, visit func(e api.Expr)) {
	visit(e)
	for _, kid := range e.Kids {
		walk(kid, visit)
	}
}

// Modules are resolved, most of them are right, and everything occurs in them.
func TestModules(t *testing.T) {
	count, right := 0, 0
	kinds, decls := map[int]int{}, map[int]int{}
	for seed := range 300 {
		r := rand.New(rand.NewSource(int64(seed)))
		var env api.Env
		for _, path := range []string{"a/v1", "b/v1", "c/v1"} {
			m := author.Module(r.Intn, env, path)
			if _, _, err := scope.Localize(m); err != api.OK {
				t.Fatal(m, err)
			}
			count++
			if len(module.Check(env, m)) > 0 {
				continue
			}
			right++
			i, _ := extract.Interface(m)
			env = environ.Add(env, i)
			for _, d := range m.Decls {
				decls[d.Kind]++
				walk(d.Expr, func(e api.Expr) { kinds[e.Kind]++ })
			}
		}
	}
	if right < count/2 {
		t.Error(right, "of", count, "modules are right")
	}
	for kind := range api.ExprOp + 1 {
		if kinds[kind] < 10 {
			t.Error(kinds[kind], "expressions of the kind", kind)
		}
	}
	for kind := range api.DeclUse + 1 {
		if decls[kind] < 10 {
			t.Error(decls[kind], "declarations of the kind", kind)
		}
	}
}

// The same choices make the same module.
func TestChoices(t *testing.T) {
	env := api.Env{{Path: "a/v1", Values: []api.ValueEntry{{Name: "v", Type: api.Type{Kind: api.TypeInt}}}}}
	made := func() api.Module {
		return author.Module(sample.Choice(rand.New(rand.NewSource(7)).Intn), env, "m/v1")
	}
	if !reflect.DeepEqual(made(), made()) {
		t.Error("other modules")
	}
}
