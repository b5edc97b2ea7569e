package syntax_test

import (
	"math/rand"
	"reflect"
	"slices"
	"strings"
	"sync"
	"testing"

	"modcert/api"
	"modcert/syntax"
)

// P4.1, P4.2, P4.4: the example of the chapter.
func TestExample(t *testing.T) {
	example := function(integer, field("a", list(variable("X"))), optional("b", record()))
	if syntax.TypeSize(example) != 5 || syntax.TypeDepth(example) != 3 || syntax.CheckType(example) != api.OK {
		t.Error("the size, the depth or the form is wrong")
	}
	if !slices.Equal(syntax.Free(example), []string{"X"}) || len(syntax.Mentions(example)) != 0 {
		t.Error("the free variables or the references are wrong")
	}
	want := function(integer, field("a", list(text)), optional("b", record()))
	if got := syntax.Substitute(example, []string{"X"}, []api.Type{text}); !same(got, want) {
		t.Errorf("with X = text it becomes %v", got)
	}
}

// P4.1: sizes and depths of types of all kinds, also of those without their forms.
func TestTypeSizes(t *testing.T) {
	wide := api.Type{Kind: api.TypeInt, Args: []api.Type{integer, list(text)}, Fields: []api.Field{field("", record(field("a", list(list(integer)))))}}
	for i, x := range []struct {
		t           api.Type
		size, depth int
	}{
		{anything, 1, 1}, {nothing, 1, 1}, {integer, 1, 1}, {boolean, 1, 1}, {text, 1, 1}, {variable("A"), 1, 1}, {reference("", "A"), 1, 1}, {record(), 1, 1}, {variant(), 1, 1},
		{list(integer), 2, 2}, {list(list(integer)), 3, 3}, {function(integer), 2, 2}, {function(integer, field("a", text), field("b", list(text))), 5, 3}, {function(list(list(text)), field("a", text)), 5, 4},
		{record(field("a", integer), field("b", list(text)), field("c", record())), 5, 3}, {variant(field("a", list(text))), 3, 3}, {reference("m", "A", integer, list(text), variable("X")), 5, 3},
		{deepType(32, integer), 32, 32}, {deepType(3000, integer), 3000, 3000}, {bigType(4096), 4096, syntax.TypeDepth(bigType(4096))}, {bigType(100000), 100000, 5}, {wide, 8, 5}, {api.Type{Kind: -1}, 1, 1}, {api.Type{Kind: 99, Args: []api.Type{integer}}, 2, 2},
	} {
		if size, depth := syntax.TypeSize(x.t), syntax.TypeDepth(x.t); size != x.size || depth != x.depth {
			t.Errorf("type %d has the size %d and the depth %d, not %d and %d", i, size, depth, x.size, x.depth)
		}
	}
}

// P4.1: sizes of expressions. The types of labels belong to functions alone.
func TestExprSizes(t *testing.T) {
	typed := []api.Label{{Name: "a", Type: list(integer)}, {Name: "b", Type: text, Optional: true}}
	for i, x := range []struct {
		e    api.Expr
		size int
	}{
		{number(7), 1}, {api.Expr{Kind: api.ExprText, Text: "abc"}, 1}, {local("a"), 1}, {api.Expr{Kind: api.ExprValue, Name: "a", Types: []api.Type{integer, list(text)}}, 4},
		{operation("+", number(1), number(2)), 3}, {operation("not", operation("not", local("a"))), 3}, {ascribe(local("a"), list(text)), 4}, {elements(integer), 2}, {elements(record(fields(3, text)...), numbers(5)...), 10},
		{api.Expr{Kind: api.ExprFunc, Labels: typed, Kids: numbers(2)}, 6}, {api.Expr{Kind: api.ExprFunc, Kids: numbers(1)}, 2}, {api.Expr{Kind: api.ExprRecord, Labels: typed, Kids: numbers(2)}, 3}, {api.Expr{Kind: api.ExprCall, Labels: typed}, 1},
		{api.Expr{Kind: api.ExprMatch, Types: []api.Type{list(list(text))}, Labels: typed, Kids: numbers(3)}, 7}, {api.Expr{Kind: -1, Types: []api.Type{list(text)}, Labels: typed, Kids: numbers(1)}, 4}, {deepExpr(3000, number(1)), 3000},
		{operation("+", ascribe(number(1), bigType(1000)), api.Expr{Kind: api.ExprFunc, Labels: []api.Label{{Type: bigType(500)}}, Kids: []api.Expr{elements(bigType(70))}}), 1575},
	} {
		if size := syntax.ExprSize(x.e); size != x.size {
			t.Errorf("expression %d has the size %d, not %d", i, size, x.size)
		}
	}
}

// P4.1: sizes of modules. Lower and Upper count if they are not both the definition.
func TestModuleSizes(t *testing.T) {
	typeDecl := func(lower, upper, definition api.Type, params ...api.Param) api.Decl {
		return api.Decl{Kind: api.DeclType, Name: "A", Lower: lower, Upper: upper, Type: definition, Params: params}
	}
	valueDecl := func(t api.Type, e api.Expr, params ...api.Param) api.Decl {
		return api.Decl{Kind: api.DeclValue, Name: "a", Type: t, Expr: e, Params: params}
	}
	x, y := api.Param{Name: "X"}, api.Param{Name: "Y"}
	boundX, boundY := api.Param{Name: "X", Bound: list(integer)}, api.Param{Name: "Y", Bound: list(variable("X"))}
	for i, x := range []struct {
		decls []api.Decl
		size  int
	}{
		{nil, 0}, {[]api.Decl{{Kind: api.DeclUse, Name: "a", Module: "m", Target: "b"}}, 1},
		{[]api.Decl{typeDecl(list(text), list(text), list(text))}, 3}, {[]api.Decl{typeDecl(list(text), list(text), list(text), x, y)}, 5}, {[]api.Decl{typeDecl(anything, anything, anything)}, 2},
		{[]api.Decl{typeDecl(nothing, list(text), list(text))}, 6}, {[]api.Decl{typeDecl(list(text), anything, list(text), x)}, 7}, {[]api.Decl{typeDecl(list(text), list(text), list(integer))}, 7}, {[]api.Decl{typeDecl(nothing, anything, list(list(text)), x)}, 7},
		{[]api.Decl{typeDecl(record(), api.Type{Kind: api.TypeRecord, Fields: []api.Field{}}, record())}, 2},
		{[]api.Decl{valueDecl(integer, number(1))}, 3}, {[]api.Decl{valueDecl(list(integer), ascribe(number(1), list(text)), boundX, boundY)}, 13}, {[]api.Decl{valueDecl(integer, number(1), x)}, 5},
		{[]api.Decl{typeDecl(nothing, anything, integer), valueDecl(integer, number(1)), {Kind: api.DeclUse}}, 8},
	} {
		for imports := range 3 {
			m := api.Module{Path: "a/v1", Imports: make([]api.Import, imports), Decls: x.decls}
			if size := syntax.ModuleSize(m); size != 1+imports+x.size {
				t.Errorf("module %d with %d imports has the size %d, not %d", i, imports, size, 1+imports+x.size)
			}
		}
	}
}

// typeSize, exprSize and moduleSize count as the chapter says.
func typeSize(t api.Type) int {
	size := 1
	for _, part := range t.Args {
		size += typeSize(part)
	}
	for _, part := range t.Fields {
		size += typeSize(part.Type)
	}
	return size
}

func exprSize(e api.Expr) int {
	size := 1
	for _, part := range e.Types {
		size += typeSize(part)
	}
	for _, label := range e.Labels {
		if e.Kind == api.ExprFunc {
			size += typeSize(label.Type)
		}
	}
	for _, kid := range e.Kids {
		size += exprSize(kid)
	}
	return size
}

func moduleSize(m api.Module) int {
	size := 1 + len(m.Imports)
	for _, d := range m.Decls {
		size += 1 + len(d.Params)
		if d.Kind == api.DeclValue {
			for _, param := range d.Params {
				size += typeSize(param.Bound)
			}
			size += exprSize(d.Expr)
		}
		if d.Kind == api.DeclType || d.Kind == api.DeclValue {
			size += typeSize(d.Type)
		}
		if d.Kind == api.DeclType && (!same(d.Lower, d.Upper) || !same(d.Lower, d.Type)) {
			size += typeSize(d.Lower) + typeSize(d.Upper)
		}
	}
	return size
}

// P4.1, P1: sizes of random trees, and that nothing panics for them.
func TestRandomSizes(t *testing.T) {
	r := rand.New(rand.NewSource(1))
	for range 3000 {
		a, e, m := random[api.Type](r, 9), random[api.Expr](r, 9), random[api.Module](r, 7)
		if r.Intn(2) == 0 && len(m.Decls) > 0 {
			m.Decls[0].Kind = api.DeclType
			m.Decls[0].Upper, m.Decls[0].Lower = m.Decls[0].Type, m.Decls[0].Type
		}
		if syntax.TypeSize(a) != typeSize(a) || syntax.ExprSize(e) != exprSize(e) {
			t.Fatalf("the size of %v or of %v is wrong", a, e)
		}
		if got := syntax.ModuleSize(m); got != moduleSize(m) && !slices.ContainsFunc(m.Decls, func(d api.Decl) bool { return d.Kind < api.DeclType || d.Kind > api.DeclUse }) {
			t.Fatalf("the size of %v is %d, not %d", m, got, moduleSize(m))
		}
		syntax.CheckType(a)
		syntax.CheckExpr(e)
		syntax.CheckModule(m)
	}
}

// P4.3: trees that are copies are equal, with nil and with empty lists; those with any change are not.
func TestEqual(t *testing.T) {
	r := rand.New(rand.NewSource(2))
	for range 150 {
		checkEquality(t, syntax.EqualTypes, random[api.Type](r, 6))
		checkEquality(t, syntax.EqualExprs, random[api.Expr](r, 6))
		checkEquality(t, syntax.EqualModules, random[api.Module](r, 5))
	}
	checkEquality(t, syntax.EqualTypes, api.Type{})
	checkEquality(t, syntax.EqualExprs, api.Expr{})
	checkEquality(t, syntax.EqualModules, api.Module{})
	checkEquality(t, syntax.EqualTypes, function(integer, field("a", list(variable("X"))), optional("b", reference("m", "A", text, text))))
}

func checkEquality[T any](t *testing.T, equal func(a, b T) bool, tree T) {
	t.Helper()
	plain, empty := duplicate(tree, false), duplicate(tree, true)
	if !equal(tree, tree) || !equal(plain, empty) || !equal(empty, plain) || !equal(tree, empty) {
		t.Fatalf("copies of %v are not equal", tree)
	}
	changes(reflect.ValueOf(&plain).Elem(), func() {
		if equal(plain, tree) || equal(tree, plain) {
			t.Fatalf("%v and %v are equal", plain, tree)
		}
	})
	if !equal(plain, tree) {
		t.Fatalf("a copy of %v is not equal any more", tree)
	}
}

// P4.3, P4.5: equality is an equivalence, and equal trees have equal sizes and errors.
func TestEquivalence(t *testing.T) {
	r := rand.New(rand.NewSource(3))
	var trees []api.Type
	for range 60 {
		trees = append(trees, random[api.Type](r, 2))
	}
	for _, a := range trees {
		for _, b := range trees {
			equal := syntax.EqualTypes(a, b)
			if equal != same(a, b) || equal != syntax.EqualTypes(b, a) {
				t.Fatalf("whether %v and %v are equal is %v", a, b, equal)
			}
			for _, c := range trees {
				if equal && syntax.EqualTypes(b, c) && !syntax.EqualTypes(a, c) {
					t.Fatalf("%v, %v and %v are not all equal", a, b, c)
				}
			}
		}
	}
	for range 500 {
		m := random[api.Module](r, 7)
		plain, empty := duplicate(m, false), duplicate(m, true)
		i, err := syntax.CheckModule(plain)
		j, e := syntax.CheckModule(empty)
		if i != j || err != e || syntax.ModuleSize(plain) != syntax.ModuleSize(empty) {
			t.Fatalf("equal modules have other errors or sizes: %v", m)
		}
	}
}

// P4.4: which types stand for which variables.
func TestSubstitute(t *testing.T) {
	a, b, c := variable("A"), variable("B"), variable("#0")
	for i, x := range []struct {
		t     api.Type
		names []string
		types []api.Type
		want  api.Type
	}{
		{a, []string{"A"}, []api.Type{integer}, integer}, {b, []string{"A"}, []api.Type{integer}, b}, {c, []string{"A", "#0"}, []api.Type{integer, text}, text},
		{a, nil, nil, a}, {a, []string{"A"}, nil, a}, {a, nil, []api.Type{integer}, a}, {a, []string{"B", "A"}, []api.Type{integer}, a}, {a, []string{"A"}, []api.Type{integer, text}, integer},
		{a, []string{"A", "A"}, []api.Type{integer, text}, integer}, {b, []string{"A", "B", "B"}, []api.Type{integer, text, boolean}, text}, {b, []string{"A", "A", "B"}, []api.Type{integer, text, boolean}, boolean}, {b, []string{"A", "B", "B"}, []api.Type{integer}, b},
		{record(field("a", a), field("b", b)), []string{"A", "B"}, []api.Type{b, a}, record(field("a", b), field("b", a))},
		{list(a), []string{"A"}, []api.Type{list(a)}, list(list(a))}, {list(a), []string{"A", "B"}, []api.Type{reference("m", "B", a, b), integer}, list(reference("m", "B", a, b))},
		{reference("A", "A", a), []string{"A"}, []api.Type{integer}, reference("A", "A", integer)}, {reference("", "A"), []string{"A", ""}, []api.Type{integer, text}, reference("", "A")},
		{function(a, field("a", b), optional("b", list(a))), []string{"A", "B"}, []api.Type{integer, function(a, optional("x", b))}, function(integer, field("a", function(a, optional("x", b))), optional("b", list(integer)))},
		{variant(field("A", c), field("B", variable("#1"))), []string{"#1", "#0"}, []api.Type{text, variable("#1")}, variant(field("A", variable("#1")), field("B", text))},
		{variable(""), []string{""}, []api.Type{text}, text}, {integer, []string{"", "int"}, []api.Type{text, text}, integer}, {api.Type{Kind: api.TypeInt, Name: "A"}, []string{"A"}, []api.Type{text}, api.Type{Kind: api.TypeInt, Name: "A"}},
		{reference("", "A", function(nothing, field("x", a)), reference("n", "B", a)), []string{"A"}, []api.Type{anything}, reference("", "A", function(nothing, field("x", anything)), reference("n", "B", anything))},
	} {
		names, types, tree := slices.Clone(x.names), duplicate(x.types, false), duplicate(x.t, false)
		got := syntax.Substitute(x.t, x.names, x.types)
		if !same(got, x.want) {
			t.Errorf("example %d becomes %v, not %v", i, got, x.want)
		}
		if !slices.Equal(names, x.names) || !same(types, x.types) || !same(tree, x.t) {
			t.Errorf("example %d has changed its arguments", i)
		}
	}
}

// substituted replaces variables as the chapter says.
func substituted(t api.Type, names []string, types []api.Type) api.Type {
	if i := slices.Index(names, t.Name); t.Kind == api.TypeVar && i >= 0 && i < len(types) {
		return types[i]
	}
	result := duplicate(t, false)
	for i, part := range t.Args {
		result.Args[i] = substituted(part, names, types)
	}
	for i, part := range t.Fields {
		result.Fields[i].Type = substituted(part.Type, names, types)
	}
	return result
}

// P4.4, P3: random trees; results share no memory, neither with arguments nor within themselves.
func TestRandomSubstitute(t *testing.T) {
	r := rand.New(rand.NewSource(4))
	for range 1000 {
		tree, types := random[api.Type](r, 8), random[[]api.Type](r, 4)
		names := []string{"A", "a", "#0", "B", "A", ""}[r.Intn(3):]
		before, typesBefore := duplicate(tree, true), duplicate(types, true)
		got := syntax.Substitute(tree, names, types)
		want := substituted(tree, names, types)
		if !same(got, want) || !same(tree, before) || !same(types, typesBefore) {
			t.Fatalf("%v with %v for %v becomes %v", tree, types, names, got)
		}
		known := map[uintptr]bool{}
		memory(reflect.ValueOf(tree), known)
		memory(reflect.ValueOf(types), known)
		if !memory(reflect.ValueOf(got), known) {
			t.Fatalf("%v shares memory", got)
		}
	}
	shared := list(variable("A"))
	got := syntax.Substitute(record(field("a", variable("A")), field("b", variable("A")), field("c", shared)), []string{"A"}, []api.Type{shared})
	if !memory(reflect.ValueOf(got), map[uintptr]bool{reflect.ValueOf(shared.Args).Pointer(): true}) {
		t.Error("two places share memory")
	}
}

// P4.4: names of variables.
func TestVariable(t *testing.T) {
	for _, s := range []string{"A", "Z", "Ab_9", "Int", "#0", "#1", "#2", "#3", "#4", "#5", "#6", "#7", strings.Repeat("X", api.MaxName)} {
		if !syntax.Variable(s) {
			t.Errorf("%q is no variable", s)
		}
	}
	for _, s := range []string{"", "a", "int", "_", "#", "#8", "#9", "#00", "#01", "#/", "#:", "#A", "#a", "##", "0", "07", "A#0", "#0A", " A", "A ", "$0", "#-1", "#\x00", "A.B", "a/v1", strings.Repeat("X", api.MaxName+1)} {
		if syntax.Variable(s) {
			t.Errorf("%q is a variable", s)
		}
	}
}

// P4.4: variables and references in increasing order, each once.
func TestFreeAndMentions(t *testing.T) {
	tree := function(reference("m", "B", variable("B"), reference("", "Z")), field("a", variable("#1")), field("b", list(variable("A"))), field("c", record(field("A", reference("m", "A", variable("A"))))),
		field("d", variable("B")), field("e", reference("mA", "A")), field("f", variant(field("X", reference("m/v1", "A")))), field("g", reference("m", "A")), field("h", variable("AA")), field("i", reference("", "A")), field("j", variable("a")))
	if got := syntax.Free(tree); !slices.Equal(got, []string{"#1", "A", "AA", "B", "a"}) {
		t.Errorf("the variables are %q", got)
	}
	want := []api.Use{{Module: "", Name: "A"}, {Module: "", Name: "Z"}, {Module: "m", Name: "A"}, {Module: "m", Name: "B"}, {Module: "m/v1", Name: "A"}, {Module: "mA", Name: "A"}}
	if got := syntax.Mentions(tree); !slices.Equal(got, want) {
		t.Errorf("the references are %v", got)
	}
	for _, plain := range []api.Type{anything, list(integer), record(field("A", text)), {Kind: api.TypeInt, Name: "A", Module: "m"}} {
		if len(syntax.Free(plain)) != 0 || len(syntax.Mentions(plain)) != 0 {
			t.Errorf("%v has variables or references", plain)
		}
	}
	if got := syntax.Mentions(function(reference("a", "Z"), field("x", reference("aA", "A")))); !slices.Equal(got, []api.Use{{Module: "a", Name: "Z"}, {Module: "aA", Name: "A"}}) {
		t.Errorf("the references are %v", got)
	}
	if got := syntax.Mentions(function(reference("a", "Z"), field("x", reference("a/v1", "A")), field("y", reference("", "ZZ")), field("z", reference("a", "A")))); !slices.Equal(got, []api.Use{{Module: "", Name: "ZZ"}, {Module: "a", Name: "A"}, {Module: "a", Name: "Z"}, {Module: "a/v1", Name: "A"}}) {
		t.Errorf("the references are %v", got)
	}
}

// P4.4: many variables and references, in every order.
func TestManyNames(t *testing.T) {
	r := rand.New(rand.NewSource(5))
	for range 300 {
		var args []api.Type
		variables, uses := map[string]bool{}, map[api.Use]bool{}
		for range r.Intn(30) {
			name, module := string(rune('A'+r.Intn(9))), []string{"", "a", "b", "a/v1", "b/v1"}[r.Intn(5)]
			args = append(args, variable(name), list(reference(module, name)))
			variables[name], uses[api.Use{Module: module, Name: name}] = true, true
		}
		free, mentions := syntax.Free(reference("x", "X", args...)), syntax.Mentions(record(field("a", list(api.Type{Kind: api.TypeVar, Args: args}))))
		if len(free) != len(variables) || len(mentions) != len(uses) {
			t.Fatalf("the variables are %q, the references %v", free, mentions)
		}
		for i, name := range free {
			if !variables[name] || i > 0 && free[i-1] >= name {
				t.Fatalf("the variables are %q", free)
			}
		}
		for i, use := range mentions {
			if !uses[use] || i > 0 && (mentions[i-1].Module > use.Module || mentions[i-1].Module == use.Module && mentions[i-1].Name >= use.Name) {
				t.Fatalf("the references are %v", mentions)
			}
		}
	}
}

// P4.5: substituting one after the other is substituting the results of the second in the types of the first, if the variables are different.
func TestSubstituteTwice(t *testing.T) {
	r := rand.New(rand.NewSource(6))
	for range 500 {
		tree, first, second := random[api.Type](r, 7), random[[]api.Type](r, 5), random[[]api.Type](r, 5)
		one, two := []string{"A", "a", ""}, []string{"B", "#0", "b"}
		inner := slices.Clone(first)
		for i, t := range inner {
			inner[i] = syntax.Substitute(t, two, second)
		}
		all := slices.Concat(inner[:min(len(inner), 3)], second)
		after := syntax.Substitute(syntax.Substitute(tree, one, first), two, second)
		if once := syntax.Substitute(tree, slices.Concat(one[:min(len(inner), 3)], two), all); !same(after, once) {
			t.Fatalf("%v becomes %v, or %v", tree, after, once)
		}
	}
}

// P2, P3: goroutines get the same results, and arguments stay as they are.
func TestSharedUse(t *testing.T) {
	r := rand.New(rand.NewSource(7))
	tree, e, m := random[api.Type](r, 9), random[api.Expr](r, 9), random[api.Module](r, 8)
	tree = list(record(field("a", tree), field("b", variable("A")), field("c", reference("a", "B"))))
	treeBefore, eBefore, mBefore := duplicate(tree, false), duplicate(e, false), duplicate(m, false)
	index, err := syntax.CheckModule(m)
	free, mentions := syntax.Free(tree), syntax.Mentions(tree)
	var all sync.WaitGroup
	for range 8 {
		all.Add(1)
		go func() {
			defer all.Done()
			for range 20 {
				i, e2 := syntax.CheckModule(m)
				f, u := syntax.Free(tree), syntax.Mentions(tree)
				if i != index || e2 != err || !slices.Equal(f, free) || !slices.Equal(u, mentions) || !syntax.EqualModules(m, mBefore) || !syntax.EqualExprs(e, eBefore) || syntax.CheckExpr(e) != syntax.CheckExpr(eBefore) || syntax.CheckType(tree) != syntax.CheckType(treeBefore) {
					t.Error("another result in a goroutine")
				}
				clear(f)
				clear(u)
				syntax.Substitute(tree, []string{"A"}, []api.Type{tree})
			}
		}()
	}
	all.Wait()
	if !same(tree, treeBefore) || !same(e, eBefore) || !same(m, mBefore) {
		t.Error("an argument has changed")
	}
}
