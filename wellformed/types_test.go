package wellformed_test

import (
	"math/rand"
	"slices"
	"strconv"
	"strings"
	"testing"

	"modcert/api"
	"modcert/environ"
	"modcert/syntax"
	"modcert/wellformed"
)

// lib is an environment with a type for each list of up to two variances, values and facades.
func lib() api.Env {
	signs := []string{"", "+", "-", "=", "++", "+-", "-+", "--", "+=", "=+", "-=", "=-", "=="}
	a := api.Interface{Path: "a/v1", Values: []api.ValueEntry{{Name: "v", Type: integer}}, Aliases: []api.AliasEntry{alias("Loop", "a/v1", "Loop"), alias("Lost", "a/v1", "Gone"), alias("Val", "a/v1", "v"), alias("Way", "z/v1", "N")}}
	f := api.Interface{Path: "f/v1"}
	for i, s := range signs {
		name := "T" + strconv.Itoa(i)
		a.Types = append(a.Types, api.TypeEntry{Name: name, Params: params(s), Upper: integer})
		f.Aliases = append(f.Aliases, alias(name, "a/v1", name))
	}
	a.Types = append(a.Types, api.TypeEntry{Name: "W", Params: []api.Param{{Name: "#0", Variance: 3}, {Name: "#1", Variance: -1}}}, api.TypeEntry{Name: "Wide", Params: params("++++++++")})
	return api.Env{a, f}
}

// P8.1: the errors of types.
func TestType(t *testing.T) {
	variables := []string{"#0", "A", "#3"}
	for source, want := range map[string]api.Errno{
		"any": api.OK, "none": api.OK, "list[int]": api.OK, "{a: int, b: text}": api.OK, "<a: int | b: {}>": api.OK, "fn(a: int, b?: bool) text": api.OK, "X0": api.OK, "X3": api.OK, "a::T0": api.OK, "a::T1[X0]": api.OK, "a::T5[X0, a::T0]": api.OK, "f::T0": api.OK, "f::T5[X3, f::T1[X0]]": api.OK, "a::Wide[int, int, int, int, int, int, int, int]": api.OK,
		"X1": api.ErrName, "list[X2]": api.ErrName, "fn(a: X1) int": api.ErrName, "fn() X7": api.ErrName, "a::T1[X1]": api.ErrName, "<a: X1>": api.ErrName, "{a: int, b: X1}": api.ErrName,
		"a::N": api.ErrNotFound, "z::T0": api.ErrNotFound, "N": api.ErrNotFound, "a::Lost": api.ErrNotFound, "a::Val": api.ErrNotFound, "a::Way": api.ErrNotFound, "f::N": api.ErrNotFound, "list[{a: fn(b: f::N) int}]": api.ErrNotFound, "a::T1[a::N]": api.ErrNotFound, "a::Loop": api.ErrLoop, "a::Loop[int]": api.ErrLoop, "fn() a::Loop": api.ErrLoop, "a::N[int]": api.ErrNotFound,
		"a::T0[int]": api.ErrArity, "a::T1": api.ErrArity, "a::T1[int, int]": api.ErrArity, "f::T0[int]": api.ErrArity, "f::T4": api.ErrArity, "f::T4[int]": api.ErrArity, "list[a::T1]": api.ErrArity, "a::Wide[int]": api.ErrArity,
	} {
		if got := wellformed.Type(lib(), variables, typed(source)); got != want {
			t.Errorf("%s has the error %d, not %d", source, got, want)
		}
	}
	formed := map[api.Errno]api.Type{api.ErrTooLarge: deep(api.MaxDepth + 1), api.ErrArg: {Kind: 11}, api.ErrName: variable("a"), api.ErrExists: {Kind: api.TypeRecord, Fields: []api.Field{{Name: "a"}, {Name: "a"}}}}
	for want, x := range formed {
		if got := wellformed.Type(lib(), append(variables, "a"), x); got != want {
			t.Errorf("%v has the error %d, not %d", x, got, want)
		}
	}
	if err := wellformed.Type(lib(), nil, deep(api.MaxDepth)); err != api.OK {
		t.Errorf("a type with the greatest depth has the error %d", err)
	}
	if err := wellformed.Type(nil, nil, variable("#0")); err != api.ErrName {
		t.Errorf("a variable without variables has the error %d", err)
	}
	if err := wellformed.Type(api.Env{{Path: "b/v1", Types: lib()[0].Types}}, nil, typed("a::T0")); err != api.ErrNotFound {
		t.Errorf("a type of a module that is missing has the error %d", err)
	}
}

// P8.1: the form comes first, then the first error in preorder.
func TestFirstErrorOfType(t *testing.T) {
	bad := map[api.Errno]api.Type{api.ErrName: typed("X1"), api.ErrNotFound: typed("a::N"), api.ErrLoop: typed("a::Loop"), api.ErrArity: typed("a::T0[int]")}
	form := api.Type{Kind: 11}
	for first, a := range bad {
		for _, b := range bad {
			fields := []api.Field{{Name: "a", Type: a}, {Name: "b", Type: b}}
			for _, x := range []api.Type{
				{Kind: api.TypeRecord, Fields: fields}, {Kind: api.TypeVariant, Fields: fields}, {Kind: api.TypeFunc, Fields: fields, Args: []api.Type{integer}}, {Kind: api.TypeFunc, Fields: fields[1:], Args: []api.Type{a}}, reference("a/v1", "T4", a, b), reference("a/v1", "T4", reference("a/v1", "T1", a), b),
			} {
				if got := wellformed.Type(lib(), []string{"#0"}, x); got != first {
					t.Errorf("%v has the error %d, not %d", x, got, first)
				}
			}
			for _, x := range []api.Type{reference("a/v1", "N", a), reference("a/v1", "Loop", b), reference("a/v1", "T0", b)} {
				if got, want := wellformed.Type(lib(), nil, x), wellformed.Type(lib(), nil, reference(x.Module, x.Name, integer)); got != want || got == api.OK {
					t.Errorf("%v has the error %d, not %d", x, got, want)
				}
			}
			if got := wellformed.Type(lib(), nil, api.Type{Kind: api.TypeFunc, Fields: fields, Args: []api.Type{form}}); got != api.ErrArg {
				t.Errorf("the form of %v comes behind its names: %d", form, got)
			}
			last := api.Type{Kind: api.TypeRecord, Fields: append(slices.Clone(fields), api.Field{Name: "c", Type: form})}
			if got := wellformed.Type(lib(), nil, last); got != api.ErrArg {
				t.Errorf("%v has the error %d", last, got)
			}
		}
	}
}

// P8.1: in which positions the variables #0 and #1 occur.
func TestPositions(t *testing.T) {
	for source, want := range map[string]string{
		"int": "", "X0": "+0", "X1": "+1", "list[X0]": "+0", "{a: X0, b: X1}": "+0+1", "<a: X0 | b: X1>": "+0+1", "fn(a: X0) X1": "-0+1", "fn(a?: X0) int": "-0", "fn(a: list[X0]) X1": "-0+1", "fn(a: X0) X0": "+0-0", "fn(a: fn(b: X0) X1) int": "+0-1", "fn(a: fn(b: fn(c: X0) int) int) int": "-0",
		"fn() fn(a: X0) X1": "-0+1", "{a: X0, b: fn(c: X0) int}": "+0-0", "<a: fn(b: X0) int | c: X0>": "+0-0", "list[list[fn(a: list[X1]) int]]": "-1",
		"a::T0": "", "a::T1[X0]": "+0", "a::T2[X0]": "-0", "a::T3[X0]": "+0-0", "a::T1[a::T2[X0]]": "-0", "a::T2[a::T2[X0]]": "+0", "a::T2[a::T1[X0]]": "-0", "a::T3[a::T1[X0]]": "+0-0", "a::T1[a::T3[X0]]": "+0-0", "a::T2[a::T3[X0]]": "+0-0", "a::T3[int]": "", "a::T3[fn(a: X0) int]": "+0-0",
		"a::T5[X0, X1]": "+0-1", "a::T6[X0, X1]": "-0+1", "a::T7[X0, X1]": "-0-1", "a::T8[X0, X1]": "+0+1-1", "a::T9[X0, X1]": "+0-0+1", "a::T10[X0, X1]": "-0+1-1", "a::T11[X0, X1]": "+0-0-1", "a::T12[X0, X1]": "+0-0+1-1", "a::T5[X0, X0]": "+0-0", "a::T7[X0, X0]": "-0", "a::T4[X0, X0]": "+0",
		"f::T2[X0]": "-0", "f::T3[X0]": "+0-0", "f::T5[X0, X1]": "+0-1", "fn(a: f::T2[X0]) int": "+0", "fn(a: a::T3[X0]) int": "+0-0", "fn(a: a::T1[X0]) int": "-0", "fn(a: a::T5[X0, X1]) int": "-0+1", "{a: a::T2[fn(b: X0) X1]}": "+0-1",
		"a::W[X0, X1]": "+0-0+1-1", "a::N[X0]": "+0-0", "z::T1[X0]": "+0-0", "T1[X0]": "+0-0", "a::Loop[X0]": "+0-0", "a::Val[X0]": "+0-0", "a::T0[X0]": "+0-0", "a::T1[X0, X1]": "+0+1-1", "a::T2[int, X0]": "+0-0", "f::T2[X1, X0]": "+0-0-1", "a::T7[X0]": "-0", "fn(a: a::N[X0]) int": "+0-0", "a::N[int]": "",
	} {
		got := ""
		for _, name := range []string{"0", "1"} {
			positive, negative := wellformed.Positions(lib(), typed(source), "#"+name)
			if positive {
				got += "+" + name
			}
			if negative {
				got += "-" + name
			}
		}
		if got != want {
			t.Errorf("the positions in %s are %q, not %q", source, got, want)
		}
	}
	for _, name := range []string{"", "#2", "A", "#", "a", "T1", "a/v1"} {
		if positive, negative := wellformed.Positions(lib(), typed("fn(a: X0, b: a::T1[X1]) X0"), name); positive || negative {
			t.Errorf("%q occurs", name)
		}
	}
	if positive, negative := wellformed.Positions(lib(), reference("a/v1", "T2", variable("Name")), "Name"); positive || !negative {
		t.Errorf("the positions of a variable with a name are %v and %v", positive, negative)
	}
}

// occurs says in which positions a variable occurs, as the chapter says it.
func occurs(env api.Env, t api.Type, variable string) (positive, negative bool) {
	add := func(part api.Type, variance int) {
		p, n := occurs(env, part, variable)
		switch variance {
		case api.Covariant:
		case api.Contravariant:
			p, n = n, p
		default:
			p, n = p || n, p || n
		}
		positive, negative = positive || p, negative || n
	}
	switch t.Kind {
	case api.TypeVar:
		return t.Name == variable, false
	case api.TypeRef:
		e, _, err := environ.Type(env, t.Module, t.Name)
		for i, argument := range t.Args {
			if err != api.OK || i >= len(e.Params) {
				add(argument, api.Invariant)
			} else {
				add(argument, e.Params[i].Variance)
			}
		}
		return positive, negative
	}
	for _, part := range t.Args {
		add(part, api.Covariant)
	}
	for _, part := range t.Fields {
		if t.Kind == api.TypeFunc {
			add(part.Type, api.Contravariant)
		} else {
			add(part.Type, api.Covariant)
		}
	}
	return positive, negative
}

// randomType returns a type with references to the types of lib, to others, and with any number of arguments.
func randomType(r *rand.Rand, levels int) api.Type {
	if levels == 0 || r.Intn(5) == 0 {
		return []api.Type{anything, integer, variable("#0"), variable("#1"), variable("#0"), variable("#1")}[r.Intn(6)]
	}
	var fields []api.Field
	for _, name := range []string{"a", "b", "c"}[:r.Intn(4)] {
		fields = append(fields, api.Field{Name: name, Type: randomType(r, levels-1)})
	}
	switch r.Intn(6) {
	case 0:
		return api.Type{Kind: api.TypeList, Args: []api.Type{randomType(r, levels-1)}}
	case 1:
		return api.Type{Kind: api.TypeRecord, Fields: fields}
	case 2:
		return api.Type{Kind: api.TypeVariant, Fields: fields}
	case 3:
		return api.Type{Kind: api.TypeFunc, Fields: fields, Args: []api.Type{randomType(r, levels-1)}}
	}
	x := reference([]string{"a/v1", "a/v1", "f/v1", "z/v1"}[r.Intn(4)], "T"+strconv.Itoa(r.Intn(15)))
	for range r.Intn(3) {
		x.Args = append(x.Args, randomType(r, levels-1))
	}
	return x
}

// P8.1: positions in random types, and whether they respect random parameters.
func TestRandomPositions(t *testing.T) {
	r := rand.New(rand.NewSource(1))
	env := lib()
	respected := 0
	for range 3000 {
		x := randomType(r, 4)
		list := params([]string{"++", "+-", "-+", "--", "=+", "-="}[r.Intn(6)])
		want := true
		for _, param := range list {
			positive, negative := wellformed.Positions(env, x, param.Name)
			wantPositive, wantNegative := occurs(env, x, param.Name)
			if positive != wantPositive || negative != wantNegative {
				t.Fatalf("the positions of %s in %v are %v and %v", param.Name, x, positive, negative)
			}
			want = want && !(param.Variance == api.Covariant && negative) && !(param.Variance == api.Contravariant && positive)
		}
		if got := wellformed.Respects(env, list, x); got != want {
			t.Fatalf("whether %v respects %v is %v", x, list, got)
		}
		if want {
			respected++
		}
	}
	if respected < 300 || respected > 2700 {
		t.Errorf("%d types respect their parameters", respected)
	}
}

// P8.1: which variances the positions permit.
func TestRespects(t *testing.T) {
	for source, want := range map[string]string{"int": "+-=", "X0": "+=", "fn(a: X0) int": "-=", "fn(a: X0) X0": "=", "a::T3[X0]": "=", "a::T2[X0]": "-=", "fn(a: f::T2[X0]) int": "+=", "X1": "+-=", "a::N[X0]": "=", "a::N[X1]": "+-=", "{a: X0, b: fn(c: X0) int}": "="} {
		for _, sign := range "+-=" {
			if got := wellformed.Respects(lib(), params(string(sign)), typed(source)); got != strings.ContainsRune(want, sign) {
				t.Errorf("whether %s respects %c is %v", source, sign, got)
			}
		}
		odd := []api.Param{{Name: "#0", Variance: 3}, {Name: "#1", Variance: -1}}
		if !wellformed.Respects(lib(), odd, typed(source)) || !wellformed.Respects(lib(), nil, typed(source)) {
			t.Errorf("%s does not respect parameters without a variance", source)
		}
	}
	two := typed("fn(a: X0) X1")
	for signs, want := range map[string]bool{"++": false, "+-": false, "+=": false, "-+": true, "--": false, "-=": true, "=+": true, "=-": false, "==": true, "-": true, "+": false, "-+--": true} {
		if got := wellformed.Respects(lib(), params(signs), two); got != want {
			t.Errorf("whether the type respects %s is %v", signs, got)
		}
	}
	// A variable is found by the first parameter with its name.
	for signs, want := range map[string]bool{"+-": true, "-+": false, "=-": true, "+=": true, "-=": false} {
		list := params(signs)
		list[1].Name = "#0"
		if got := wellformed.Respects(lib(), list, variable("#0")); got != want {
			t.Errorf("whether #0 respects %s for one name is %v", signs, got)
		}
	}
	if named := []api.Param{{Name: "Name", Variance: api.Contravariant}}; wellformed.Respects(lib(), named, variable("Name")) || !wellformed.Respects(lib(), named, typed("X0")) {
		t.Error("a parameter with a name is not looked for by it")
	}
}

// values calls a function with each value of an environment.
func values(env api.Env, see func(e api.ValueEntry)) {
	for _, i := range env {
		for _, e := range i.Values {
			see(e)
		}
	}
}

// P8.4: well-formed types stay well-formed if others are substituted for their variables, and if an interface is added.
func TestStayWellformed(t *testing.T) {
	r := rand.New(rand.NewSource(2))
	substituted := 0
	for seed := range int64(300) {
		env := randomEnv(seed)
		var closed []api.Type
		values(env, func(e api.ValueEntry) {
			if len(e.Params) == 0 {
				closed = append(closed, e.Type)
			}
		})
		junk := random[api.Interface](r, 6)
		values(env, func(e api.ValueEntry) {
			var names []string
			var types []api.Type
			for _, param := range e.Params {
				names = append(names, param.Name)
				types = append(types, append(closed, integer)[r.Intn(len(closed)+1)])
			}
			if err := wellformed.Type(env, names, e.Type); err != api.OK {
				t.Fatalf("%v has the error %d", e, err)
			}
			x := syntax.Substitute(e.Type, names, types)
			if err := wellformed.Type(env, nil, x); err != api.OK && syntax.CheckType(x) == api.OK {
				t.Fatalf("%v with %v is %v and has the error %d", e.Type, types, x, err)
			}
			substituted += len(names)
			for _, path := range []string{"a", "a/v0", "b/v11", "z/v1"} {
				junk.Path = path
				if err := wellformed.Type(environ.Add(env, junk), names, e.Type); err != api.OK {
					t.Fatalf("%v has the error %d with another interface", e.Type, err)
				}
			}
		})
	}
	if substituted < 100 {
		t.Errorf("only %d variables were substituted", substituted)
	}
}
