package environ_test

import (
	"math/rand"
	"reflect"
	"slices"
	"strconv"
	"strings"
	"sync"
	"testing"

	"modcert/api"
	"modcert/environ"
)

// numbered returns interfaces with paths, each with a value whose name tells its index.
func numbered(paths string) api.Env {
	var env api.Env
	for i, path := range strings.Fields(paths) {
		env = append(env, api.Interface{Path: path, Values: []api.ValueEntry{valueNamed("v"+strconv.Itoa(i), integer)}})
	}
	return env
}

// listed is the inverse of numbered: paths with the numbers of their interfaces.
func listed(env api.Env) string {
	var words []string
	for _, i := range env {
		words = append(words, i.Path+i.Values[0].Name)
	}
	return strings.Join(words, " ")
}

// P7.1: the first interface with a path.
func TestFind(t *testing.T) {
	env := numbered("b/v1 a/v1 b/v1 c/v1 a/v1 x")
	for path, want := range map[string]int{"a/v1": 1, "b/v1": 0, "c/v1": 3, "x": 5} {
		if i, ok := environ.Find(env, path); !ok || !same(i, env[want]) {
			t.Errorf("the interface with the path %s is %v, %v", path, i, ok)
		}
	}
	for _, path := range []string{"", "a", "a/v", "a/v10", "A/v1", "d/v1"} {
		if i, ok := environ.Find(env, path); ok || !same(i, api.Interface{}) {
			t.Errorf("the interface with the path %q is %v, %v", path, i, ok)
		}
	}
	if i, ok := environ.Find(nil, ""); ok || !same(i, api.Interface{}) {
		t.Errorf("there is the interface %v", i)
	}
	if i, ok := environ.Find(api.Env{{}}, ""); !ok || !same(i, api.Interface{}) {
		t.Errorf("there is no interface, but %v", i)
	}
	full := randomEnv(1)
	for _, want := range full {
		if i, ok := environ.Find(full, want.Path); !ok || !same(i, want) {
			t.Errorf("the interface %v is not found, but %v", want, i)
		}
	}
}

// P7.1: exported names, each once.
func TestExports(t *testing.T) {
	i := api.Interface{
		Types:      []api.TypeEntry{{Name: "B"}, {Name: "A"}, {Name: "B"}, {Name: "v"}},
		Values:     []api.ValueEntry{{Name: "v"}, {Name: "a"}, {Name: ""}},
		Aliases:    []api.AliasEntry{alias("w", "a/v1", "x"), alias("A", "y", "Z"), alias("v", "", "")},
		Deprecated: []api.Deprecation{{Name: "old"}, {Name: "a"}},
	}
	if got := environ.Exports(i); !slices.Equal(got, []string{"", "A", "B", "a", "v", "w"}) {
		t.Errorf("the exported names are %q", got)
	}
	for name, one := range map[string]api.Interface{"T": {Types: i.Types[:1]}, "v": {Values: i.Values[:1]}, "w": {Aliases: i.Aliases[:1]}} {
		if got := environ.Exports(one); len(got) != 1 {
			t.Errorf("%s: the exported names are %q", name, got)
		}
	}
	if got := environ.Exports(api.Interface{Path: "a/v1", Deprecated: i.Deprecated}); len(got) != 0 {
		t.Errorf("%q are exported", got)
	}
}

// P7.2: an interface replaces those with its path, and stands in front of the first one with a greater path.
func TestAdd(t *testing.T) {
	for _, x := range [][3]string{
		{"", "b/v1", "b/v1v9"}, {"a/v1", "b/v1", "a/v1v0 b/v1v9"}, {"c/v1", "b/v1", "b/v1v9 c/v1v0"}, {"a/v1 c/v1", "b/v1", "a/v1v0 b/v1v9 c/v1v1"}, {"a/v1 b/v1 c/v1", "b/v1", "a/v1v0 b/v1v9 c/v1v2"},
		{"a/v1 b/v1", "b/v1", "a/v1v0 b/v1v9"}, {"b/v1 b/v1 b/v1", "b/v1", "b/v1v9"}, {"b/v1 a/v1 b/v1", "b/v1", "a/v1v1 b/v1v9"}, {"b/v1 c/v1 a/v1", "b/v1", "b/v1v9 c/v1v1 a/v1v2"},
		{"a/v1 d/v1 b/v1 c/v1 b/v1", "b/v1", "a/v1v0 b/v1v9 d/v1v1 c/v1v3"}, {"b/v10 b/v2", "b/v1", "b/v1v9 b/v10v0 b/v2v1"}, {"b/v10 b/v2", "b/v11", "b/v10v0 b/v11v9 b/v2v1"}, {"a/v1", "", "v9 a/v1v0"}, {"b a", "a", "av9 bv0"}, {"c b a a", "b", "bv9 cv0 av2 av3"},
	} {
		env := numbered(x[0])
		i := api.Interface{Path: x[1], Values: []api.ValueEntry{valueNamed("v9", integer)}}
		if got := listed(environ.Add(env, i)); got != x[2] {
			t.Errorf("%s and %s are %s", x[0], x[1], got)
		}
	}
	env := randomEnv(2)
	for k, i := range env {
		i.Deprecated = append(slices.Clone(i.Deprecated), api.Deprecation{Name: "new", Note: "note"})
		want := duplicate(env, false)
		want[k].Deprecated = i.Deprecated
		if got := environ.Add(env, i); !same(got, want) {
			t.Errorf("%v with %v is %v", env, i, got)
		}
	}
}

// P7.2: all interfaces with a path are left out.
func TestWithout(t *testing.T) {
	for _, x := range [][3]string{
		{"", "b/v1", ""}, {"a/v1 b/v1 c/v1", "b/v1", "a/v1v0 c/v1v2"}, {"a/v1", "b/v1", "a/v1v0"}, {"b/v1", "b/v1", ""}, {"b/v1 b/v1", "b/v1", ""}, {"b/v1 c/v1 b/v1 a/v1 b/v1", "b/v1", "c/v1v1 a/v1v3"}, {"b/v10 b/v", "b/v1", "b/v10v0 b/vv1"}, {"c a b", "", "cv0 av1 bv2"},
	} {
		if got := listed(environ.Without(numbered(x[0]), x[1])); got != x[2] {
			t.Errorf("%s without %s is %s", x[0], x[1], got)
		}
	}
}

// chains has facades of facades, names that stand in several lists, and two interfaces with one path.
func chains() api.Env {
	return api.Env{
		{Path: "b/v1", Aliases: []api.AliasEntry{alias("T", "a/v1", "N"), alias("U", "b/v1", "T"), alias("f", "a/v1", "v"), alias("lost", "a/v1", "w"), alias("Gone", "z/v1", "N"), alias("Self", "b/v1", "Self"),
			alias("Ping", "b/v1", "Pong"), alias("Pong", "b/v1", "Ping"), alias("T", "a/v1", "M"), alias("Odd", "a/v1", "v"), alias("odd", "a/v1", "N")}},
		{Path: "a/v1", Types: []api.TypeEntry{typeNamed("N", integer), typeNamed("M", text), typeNamed("N", text), typeNamed("Both", text), typeNamed("All", text)},
			Values:  []api.ValueEntry{valueNamed("v", integer), valueNamed("v", text), valueNamed("Both", integer), valueNamed("All", integer), valueNamed("two", integer)},
			Aliases: []api.AliasEntry{alias("All", "z/v1", "N"), alias("two", "z/v1", "N"), alias("back", "b/v1", "f")}},
		{Path: "a/v1", Types: []api.TypeEntry{typeNamed("Second", integer)}},
		{Path: "", Types: []api.TypeEntry{typeNamed("", integer)}},
	}
}

// P7.3: the ends of names.
func TestResolve(t *testing.T) {
	for _, x := range []struct {
		module, name, end, at string
		err                   api.Errno
	}{
		{"a/v1", "N", "a/v1", "N", api.OK}, {"a/v1", "M", "a/v1", "M", api.OK}, {"a/v1", "v", "a/v1", "v", api.OK}, {"b/v1", "T", "a/v1", "N", api.OK}, {"b/v1", "U", "a/v1", "N", api.OK}, {"b/v1", "f", "a/v1", "v", api.OK}, {"a/v1", "back", "a/v1", "v", api.OK},
		{"a/v1", "Both", "a/v1", "Both", api.OK}, {"a/v1", "All", "a/v1", "All", api.OK}, {"a/v1", "two", "a/v1", "two", api.OK}, {"b/v1", "Odd", "a/v1", "v", api.OK}, {"b/v1", "odd", "a/v1", "N", api.OK}, {"", "", "", "", api.OK},
		{"a/v1", "W", "", "", api.ErrNotFound}, {"z/v1", "N", "", "", api.ErrNotFound}, {"b/v1", "lost", "", "", api.ErrNotFound}, {"b/v1", "Gone", "", "", api.ErrNotFound}, {"a/v1", "Second", "", "", api.ErrNotFound}, {"a/v1", "", "", "", api.ErrNotFound}, {"", "N", "", "", api.ErrNotFound},
		{"b/v1", "Self", "", "", api.ErrLoop}, {"b/v1", "Ping", "", "", api.ErrLoop}, {"b/v1", "Pong", "", "", api.ErrLoop},
	} {
		if end, at, err := environ.Resolve(chains(), x.module, x.name); end != x.end || at != x.at || err != x.err {
			t.Errorf("%s::%s leads to %s::%s with the error %d", x.module, x.name, end, at, err)
		}
	}
	if end, at, err := environ.Resolve(nil, "a/v1", "N"); end != "" || at != "" || err != api.ErrNotFound {
		t.Errorf("a name leads to %s::%s with the error %d in an empty environment", end, at, err)
	}
}

// P7.3: the entries of types and values, and their modules.
func TestEntries(t *testing.T) {
	for _, x := range []struct {
		module, name string
		typed, value api.Errno
		upper        api.Type // or the type of the value
		end          string
	}{
		{"a/v1", "N", api.OK, api.ErrNotFound, integer, "a/v1"}, {"a/v1", "M", api.OK, api.ErrNotFound, text, "a/v1"}, {"b/v1", "T", api.OK, api.ErrNotFound, integer, "a/v1"}, {"b/v1", "U", api.OK, api.ErrNotFound, integer, "a/v1"}, {"b/v1", "odd", api.OK, api.ErrNotFound, integer, "a/v1"},
		{"a/v1", "v", api.ErrNotFound, api.OK, integer, "a/v1"}, {"b/v1", "f", api.ErrNotFound, api.OK, integer, "a/v1"}, {"a/v1", "back", api.ErrNotFound, api.OK, integer, "a/v1"}, {"b/v1", "Odd", api.ErrNotFound, api.OK, integer, "a/v1"},
		{"a/v1", "Both", api.OK, api.ErrNotFound, text, "a/v1"}, {"a/v1", "All", api.OK, api.ErrNotFound, text, "a/v1"}, {"a/v1", "two", api.ErrNotFound, api.OK, integer, "a/v1"},
		{"b/v1", "lost", api.ErrNotFound, api.ErrNotFound, anything, ""}, {"z/v1", "N", api.ErrNotFound, api.ErrNotFound, anything, ""}, {"a/v1", "Second", api.ErrNotFound, api.ErrNotFound, anything, ""}, {"b/v1", "Self", api.ErrLoop, api.ErrLoop, anything, ""}, {"b/v1", "Ping", api.ErrLoop, api.ErrLoop, anything, ""},
	} {
		typed, end, err := environ.Type(chains(), x.module, x.name)
		if err != x.typed || err == api.OK && (end != x.end || !same(typed.Upper, x.upper) || typed.Name == "") || err != api.OK && (end != "" || !same(typed, api.TypeEntry{})) {
			t.Errorf("the type %s::%s is %v of %q with the error %d", x.module, x.name, typed, end, err)
		}
		value, end, err := environ.Value(chains(), x.module, x.name)
		if err != x.value || err == api.OK && (end != x.end || !same(value.Type, x.upper) || value.Name == "") || err != api.OK && (end != "" || !same(value, api.ValueEntry{})) {
			t.Errorf("the value %s::%s is %v of %q with the error %d", x.module, x.name, value, end, err)
		}
	}
}

// P7.3: Type and Value return all of an entry.
func TestWholeEntries(t *testing.T) {
	params := []api.Param{{Name: "#0", Variance: api.Invariant, Bound: list(text)}, {Name: "x", Variance: -7, Bound: record(field("a", integer))}}
	typed := api.TypeEntry{Name: "N", Params: params, Lower: list(variable("#0")), Upper: function(integer, api.Field{Name: "a", Type: reference("b/v1", "B"), Optional: true})}
	value := api.ValueEntry{Name: "v", Params: params, Type: typed.Upper}
	env := api.Env{{Path: "b/v1", Aliases: []api.AliasEntry{alias("T", "a/v1", "N"), alias("t", "a/v1", "v")}}, {Path: "a/v1", Types: []api.TypeEntry{{Name: "M"}, typed}, Values: []api.ValueEntry{{Name: "n"}, value}}}
	if got, end, err := environ.Type(env, "b/v1", "T"); err != api.OK || end != "a/v1" || !same(got, typed) {
		t.Errorf("the type is %v of %s with the error %d", got, end, err)
	}
	if got, end, err := environ.Value(env, "b/v1", "t"); err != api.OK || end != "a/v1" || !same(got, value) {
		t.Errorf("the value is %v of %s with the error %d", got, end, err)
	}
}

// chain has facades F0, F1, ... of each other, of which the last one leads to a target.
func chain(facades int, target api.AliasEntry) api.Env {
	i := api.Interface{Path: "a/v1", Types: []api.TypeEntry{{Name: "N", Upper: integer}}, Values: []api.ValueEntry{{Name: "v", Type: integer}}}
	for k := range facades {
		i.Aliases = append(i.Aliases, alias("F"+strconv.Itoa(k), "a/v1", "F"+strconv.Itoa(k+1)))
	}
	i.Aliases[facades-1].Module, i.Aliases[facades-1].Target = target.Module, target.Target
	return api.Env{i}
}

// P7.3: 64 facades can be followed, and the target of the 65th one is not looked for.
func TestLongChains(t *testing.T) {
	for facades := 1; facades <= 200; facades++ {
		for _, target := range []api.AliasEntry{alias("", "a/v1", "N"), alias("", "a/v1", "v"), alias("", "a/v1", "W"), alias("", "b/v1", "N"), alias("", "a/v1", "F0")} {
			want := api.OK
			if target.Target == "W" || target.Module == "b/v1" {
				want = api.ErrNotFound
			}
			if facades > api.MaxModules || target.Target == "F0" {
				want = api.ErrLoop
			}
			if _, _, err := environ.Resolve(chain(facades, target), "a/v1", "F0"); err != want {
				t.Errorf("a way of %d facades to %s has the error %d, not %d", facades, target.Target, err, want)
			}
		}
	}
	env := chain(api.MaxModules+1, alias("", "a/v1", "N"))
	if module, name, err := environ.Resolve(env, "a/v1", "F1"); module != "a/v1" || name != "N" || err != api.OK {
		t.Errorf("the way behind the first of 65 facades leads to %s::%s with the error %d", module, name, err)
	}
	if _, end, err := environ.Type(env, "a/v1", "F0"); end != "" || err != api.ErrLoop {
		t.Errorf("the error of a type is %d", err)
	}
	if _, _, err := environ.Bounds(env, reference("a/v1", "F0", integer)); err != api.ErrLoop {
		t.Errorf("the error of bounds is %d", err)
	}
	if _, end, err := environ.Value(env, "a/v1", "F0"); end != "" || err != api.ErrLoop {
		t.Errorf("the error of a value is %d", err)
	}
}

// P7.3: bounds, with arguments in place of the parameters.
func TestBounds(t *testing.T) {
	x, y := variable("#0"), variable("#1")
	params := func(names ...string) []api.Param {
		var list []api.Param
		for _, name := range names {
			list = append(list, api.Param{Name: name})
		}
		return list
	}
	env := append(chains(), api.Interface{Path: "p/v1", Types: []api.TypeEntry{
		{Name: "Plain", Lower: integer, Upper: text}, {Name: "One", Params: params("#0"), Lower: x, Upper: list(x)}, {Name: "Two", Params: params("#0", "#1"), Lower: record(field("a", x), field("b", y)), Upper: reference("p/v1", "Two", y, x)},
		{Name: "Named", Params: params("A", "B"), Lower: variable("B"), Upper: list(variable("A"))}, {Name: "Twice", Params: params("#0", "#0"), Lower: x, Upper: list(x)}, {Name: "Free", Params: params("#1"), Lower: x, Upper: y}, {Name: "Back", Params: params("#1", "#0"), Lower: x, Upper: y}},
		Aliases: []api.AliasEntry{alias("Face", "q/v1", "Face")}},
		api.Interface{Path: "q/v1", Aliases: []api.AliasEntry{alias("Face", "p/v1", "Two")}, Values: []api.ValueEntry{valueNamed("v", integer)}})
	for i, e := range []struct {
		t            api.Type
		lower, upper api.Type
		err          api.Errno
	}{
		{reference("p/v1", "Plain"), integer, text, api.OK}, {reference("p/v1", "One", text), text, list(text), api.OK}, {reference("p/v1", "Two", integer, text), record(field("a", integer), field("b", text)), reference("p/v1", "Two", text, integer), api.OK},
		{reference("p/v1", "Two", y, list(x)), record(field("a", y), field("b", list(x))), reference("p/v1", "Two", list(x), y), api.OK}, {reference("p/v1", "Named", integer, x), x, list(integer), api.OK}, {reference("p/v1", "Twice", integer, text), integer, list(integer), api.OK},
		{reference("p/v1", "Free", text), x, text, api.OK}, {reference("p/v1", "Back", text, integer), integer, text, api.OK}, {reference("p/v1", "Face", text, integer), record(field("a", text), field("b", integer)), reference("p/v1", "Two", integer, text), api.OK}, {reference("q/v1", "Face", x, x), record(field("a", x), field("b", x)), reference("p/v1", "Two", x, x), api.OK},
		{reference("b/v1", "U"), anything, integer, api.OK},
		{reference("p/v1", "Plain", integer), anything, anything, api.ErrArity}, {reference("p/v1", "One"), anything, anything, api.ErrArity}, {reference("p/v1", "Two", integer), anything, anything, api.ErrArity}, {reference("p/v1", "Two", integer, text, text), anything, anything, api.ErrArity}, {reference("q/v1", "Face"), anything, anything, api.ErrArity},
		{reference("q/v1", "v"), anything, anything, api.ErrNotFound}, {reference("q/v1", "v", integer), anything, anything, api.ErrNotFound}, {reference("p/v1", "None", integer), anything, anything, api.ErrNotFound}, {reference("z/v1", "One", integer), anything, anything, api.ErrNotFound}, {reference("b/v1", "Self", integer), anything, anything, api.ErrLoop},
		{anything, anything, anything, api.ErrArg}, {integer, anything, anything, api.ErrArg}, {list(integer), anything, anything, api.ErrArg}, {x, anything, anything, api.ErrArg}, {record(), anything, anything, api.ErrArg}, {api.Type{Kind: 11, Module: "p/v1", Name: "Plain"}, anything, anything, api.ErrArg}, {api.Type{Kind: -1}, anything, anything, api.ErrArg},
		{api.Type{Kind: api.TypeVar, Module: "p/v1", Name: "Plain"}, anything, anything, api.ErrArg}, {api.Type{Kind: api.TypeInt, Module: "p/v1", Name: "None"}, anything, anything, api.ErrArg},
	} {
		if lower, upper, err := environ.Bounds(env, e.t); err != e.err || !same(lower, e.lower) || !same(upper, e.upper) {
			t.Errorf("example %d: the bounds are %v and %v with the error %d", i, lower, upper, err)
		}
	}
}

// P7.4: the modules of references and facades, but the module itself.
func TestMentions(t *testing.T) {
	at := func(module string) api.Type {
		return list(record(field("a", reference(module, "N", reference(module, "M")))))
	}
	bound := func(module string) []api.Param { return []api.Param{{Name: "#0"}, {Name: "#1", Bound: at(module)}} }
	for want, i := range map[string]api.Interface{
		"":          {Path: "a/v1", Types: []api.TypeEntry{{Lower: at("a/v1"), Upper: at("a/v1"), Params: bound("a/v1")}}, Values: []api.ValueEntry{{Type: at("a/v1"), Params: bound("a/v1")}}, Aliases: []api.AliasEntry{alias("A", "a/v1", "b/v1")}, Deprecated: []api.Deprecation{{Name: "b/v1", Note: "b/v1"}}},
		"l/v1":      {Path: "a/v1", Types: []api.TypeEntry{{}, {Lower: at("l/v1")}}},
		"u/v1":      {Path: "a/v1", Types: []api.TypeEntry{{Upper: at("u/v1")}, {}}},
		"p/v1":      {Path: "a/v1", Types: []api.TypeEntry{{Params: bound("p/v1")}}},
		"v/v1":      {Path: "a/v1", Values: []api.ValueEntry{{}, {Type: at("v/v1")}}},
		"q/v1":      {Path: "a/v1", Values: []api.ValueEntry{{Params: bound("q/v1")}}},
		"x/v1":      {Path: "a/v1", Aliases: []api.AliasEntry{alias("A", "x/v1", "B")}},
		"a/v1":      {Path: "b/v1", Values: []api.ValueEntry{{Type: at("a/v1")}}},
		"a a/v10 b": {Path: "a/v1", Values: []api.ValueEntry{{Type: function(at("b"), field("a", at("a")), field("b", at("b")))}, {Type: api.Type{Kind: api.TypeVar, Module: "c", Name: "A"}}}, Aliases: []api.AliasEntry{alias("A", "a/v10", "B"), alias("B", "a/v1", "B")}},
		"a b c d e": {Path: "f", Types: []api.TypeEntry{{Lower: at("e"), Upper: at("d")}}, Values: []api.ValueEntry{{Params: bound("b"), Type: at("a")}}, Aliases: []api.AliasEntry{alias("A", "c", "B"), alias("A", "e", "B"), alias("A", "a", "B")}},
	} {
		if got := environ.Mentions(i); !slices.Equal(got, strings.Fields(want)) {
			t.Errorf("%v mentions %q", i, got)
		}
	}
}

// mentioning returns an environment from words like a:bc, an interface that mentions others.
func mentioning(words string) api.Env {
	var env api.Env
	for k, word := range strings.Fields(words) {
		path, others, _ := strings.Cut(word, ":")
		i := api.Interface{Path: path, Values: []api.ValueEntry{{Name: "v" + strconv.Itoa(k)}}}
		for n, other := range others {
			switch n % 4 {
			case 0:
				i.Aliases = append(i.Aliases, alias("w"+strconv.Itoa(n), string(other), "x"))
			case 1:
				i.Values[0].Type = list(reference(string(other), "N"))
			case 2:
				i.Types = append(i.Types, typeNamed("N", record(field("a", reference(string(other), "N")))))
			case 3:
				i.Values[0].Params = []api.Param{{Bound: reference(string(other), "N")}}
			}
		}
		env = append(env, i)
	}
	return env
}

// P7.4: the closure of a path, in the order of the environment.
func TestClosure(t *testing.T) {
	for _, x := range []struct {
		env, path, want string
		err             api.Errno
	}{
		{"a", "a", "av0", api.OK}, {"a b", "a", "av0", api.OK}, {"a:b b", "a", "av0 bv1", api.OK}, {"b a:b", "a", "bv0 av1", api.OK}, {"c b:c a:b", "a", "cv0 bv1 av2", api.OK}, {"c b:c a:b", "b", "cv0 bv1", api.OK}, {"a:a", "a", "av0", api.OK}, {"a:b b:a", "b", "av0 bv1", api.OK},
		{"a:bcde b c d e f", "a", "av0 bv1 cv2 dv3 ev4", api.OK}, {"d:b c:d b a:bc x y:x", "a", "dv0 cv1 bv2 av3", api.OK}, {"a a:b b", "a", "av0", api.OK}, {"a:b b b:c c", "a", "av0 bv1", api.OK}, {"b a:b b:c c a", "a", "bv0 av1", api.OK}, {"a:b b:c c:a d:c", "d", "av0 bv1 cv2 dv3", api.OK},
		{"", "a", "", api.ErrNotFound}, {"a", "b", "", api.ErrNotFound}, {"a:b", "a", "", api.ErrNotFound}, {"a:bc b", "a", "", api.ErrNotFound}, {"a:b b:c c:d", "a", "", api.ErrNotFound}, {"a b:c", "a", "av0", api.OK}, {"a:bcde b c d", "a", "", api.ErrNotFound}, {"a:b b:ab a:c", "a", "av0 bv1", api.OK},
	} {
		env := mentioning(x.env)
		got, err := environ.Closure(env, x.path)
		if listed(got) != x.want || err != x.err {
			t.Errorf("the closure of %s in %s is %s, with the error %d", x.path, x.env, listed(got), err)
		}
		for _, i := range got {
			if first, _ := environ.Find(env, i.Path); !same(i, first) {
				t.Errorf("the closure of %s in %s contains %v, not %v", x.path, x.env, i, first)
			}
		}
	}
}

// P7.4: environments that are copies are equal, with nil and with empty lists; those with any change are not.
func TestEqual(t *testing.T) {
	r := rand.New(rand.NewSource(3))
	envs := []api.Env{nil, {{}}, chains(), randomEnv(3)}
	for range 40 {
		envs = append(envs, random[api.Env](r, 5))
	}
	for _, env := range envs {
		plain, empty := duplicate(env, false), duplicate(env, true)
		if !environ.Equal(env, env) || !environ.Equal(plain, empty) || !environ.Equal(empty, plain) {
			t.Fatalf("copies of %v are not equal", env)
		}
		changes(reflect.ValueOf(&plain).Elem(), func() {
			if environ.Equal(plain, env) || environ.Equal(env, plain) {
				t.Fatalf("%v and %v are equal", plain, env)
			}
		})
	}
	for i, a := range envs {
		for k, b := range envs {
			if equal := environ.Equal(a, b); equal != same(a, b) || i == k && !equal {
				t.Fatalf("whether %v and %v are equal is %v", a, b, equal)
			}
		}
	}
	if a := numbered("a b"); environ.Equal(a, api.Env{a[1], a[0]}) {
		t.Error("environments in another order are equal")
	}
}

// resolved follows facades as the chapter says.
func resolved(env api.Env, module, name string, followed int) (string, string, api.Errno) {
	for _, i := range env {
		if i.Path != module {
			continue
		}
		named := func(other string) bool { return other == name }
		if slices.ContainsFunc(i.Types, func(e api.TypeEntry) bool { return named(e.Name) }) || slices.ContainsFunc(i.Values, func(e api.ValueEntry) bool { return named(e.Name) }) {
			return module, name, api.OK
		}
		for _, e := range i.Aliases {
			if named(e.Name) && followed == api.MaxModules {
				return "", "", api.ErrLoop
			}
			if named(e.Name) {
				return resolved(env, e.Module, e.Target, followed+1)
			}
		}
		break
	}
	return "", "", api.ErrNotFound
}

// P7.3, P1: random environments, most of which have no form at all.
func TestRandomResolve(t *testing.T) {
	r := rand.New(rand.NewSource(4))
	counts := map[api.Errno]int{}
	for range 3000 {
		env := wild(r)
		module, name := []string{"a/v1", "b/v1", "a"}[r.Intn(3)], []string{"a", "b", "A", "#0"}[r.Intn(4)]
		wantModule, wantName, want := resolved(env, module, name, 0)
		end, at, err := environ.Resolve(env, module, name)
		if end != wantModule || at != wantName || err != want {
			t.Fatalf("%s::%s leads to %s::%s with the error %d in %v", module, name, end, at, err, env)
		}
		counts[err]++
		typed, typeModule, typeErr := environ.Type(env, module, name)
		value, valueModule, valueErr := environ.Value(env, module, name)
		if err == api.OK && (typeErr == api.OK) == (valueErr == api.OK) || err != api.OK && (typeErr != err || valueErr != err) {
			t.Fatalf("the errors of %s::%s are %d and %d in %v", module, name, typeErr, valueErr, env)
		}
		if typeErr == api.OK && (typed.Name != at || typeModule != end) || valueErr == api.OK && (value.Name != at || valueModule != end) {
			t.Fatalf("%s::%s is %v of %s or %v of %s in %v", module, name, typed, typeModule, value, valueModule, env)
		}
	}
	if counts[api.OK] < 50 || counts[api.ErrNotFound] < 50 || counts[api.ErrLoop] < 5 {
		t.Errorf("the errors are %v", counts)
	}
}

// P7.5: adding to a sorted environment gives a sorted environment.
func TestSorted(t *testing.T) {
	r := rand.New(rand.NewSource(5))
	byPath := func(a, b api.Interface) int { return strings.Compare(a.Path, b.Path) }
	for range 300 {
		var env api.Env
		paths := map[string]bool{}
		for range 1 + r.Intn(12) {
			path := string(rune('a'+r.Intn(5))) + "/v" + strconv.Itoa(r.Intn(12))
			env = environ.Add(env, api.Interface{Path: path, Values: []api.ValueEntry{{Name: path}}})
			paths[path] = true
			if !slices.IsSortedFunc(env, byPath) || len(env) != len(paths) {
				t.Fatalf("%s was added: %v", path, env)
			}
		}
		for path := range paths {
			less := environ.Without(env, path)
			if len(less) != len(env)-1 || !slices.IsSortedFunc(less, byPath) || !environ.Equal(environ.Add(less, api.Interface{Path: path, Values: []api.ValueEntry{{Name: path}}}), env) {
				t.Fatalf("%v without %s is %v", env, path, less)
			}
		}
	}
}

// P7.5: a facade and its target have the same end, and closures are closed.
func TestConsequences(t *testing.T) {
	facades, members := 0, 0
	for seed := range int64(200) {
		env := randomEnv(seed)
		for _, i := range env {
			for _, e := range i.Aliases {
				module, name, err := environ.Resolve(env, i.Path, e.Name)
				targetModule, targetName, targetErr := environ.Resolve(env, e.Module, e.Target)
				if module != targetModule || name != targetName || err != api.OK || targetErr != api.OK {
					t.Fatalf("%s::%s leads to %s::%s, its target to %s::%s", i.Path, e.Name, module, name, targetModule, targetName)
				}
				facades++
			}
			closure, err := environ.Closure(env, i.Path)
			if err != api.OK {
				t.Fatalf("the closure of %s has the error %d", i.Path, err)
			}
			for _, member := range closure {
				part, err := environ.Closure(closure, member.Path)
				whole, _ := environ.Closure(env, member.Path)
				if err != api.OK || !environ.Equal(part, whole) {
					t.Fatalf("the closure of %s in that of %s has the error %d", member.Path, i.Path, err)
				}
				for _, path := range environ.Mentions(member) {
					if _, ok := environ.Find(closure, path); !ok || path == member.Path {
						t.Fatalf("%s, which %s mentions, is not in the closure of %s", path, member.Path, i.Path)
					}
					members++
				}
			}
		}
	}
	if facades < 100 || members < 100 {
		t.Errorf("there were only %d facades and %d mentions", facades, members)
	}
}

// P3: results share no memory with arguments or within themselves, and arguments stay as they are.
func TestMemory(t *testing.T) {
	for seed := range int64(100) {
		env := randomEnv(seed)
		before := duplicate(env, false)
		for _, i := range env {
			arguments := []any{env}
			found, _ := environ.Find(env, i.Path)
			checkNew(t, "Find", arguments, found)
			checkNew(t, "Add", arguments, environ.Add(env, i))
			checkNew(t, "Without", arguments, environ.Without(env, i.Path), environ.Without(env, "none/v1"))
			checkNew(t, "Exports", arguments, environ.Exports(i), environ.Mentions(i))
			closure, _ := environ.Closure(env, i.Path)
			checkNew(t, "Closure", arguments, closure)
			for _, name := range environ.Exports(i) {
				typed, _, err := environ.Type(env, i.Path, name)
				value, _, _ := environ.Value(env, i.Path, name)
				checkNew(t, "Type or Value", arguments, typed, value)
				if err != api.OK {
					continue
				}
				use := reference(i.Path, name)
				for range typed.Params {
					use.Args = append(use.Args, record(field("a", list(integer))))
				}
				lower, upper, err := environ.Bounds(env, use)
				checkNew(t, "Bounds", []any{env, use}, lower, upper)
				if err != api.OK {
					t.Errorf("the bounds of %v have the error %d", use, err)
				}
			}
			if !same(env, before) {
				t.Fatal("an argument has changed")
			}
		}
	}
}

// P1, P2, P3: functions end for environments without any form, in several goroutines, with the same results.
func TestSharedUse(t *testing.T) {
	r := rand.New(rand.NewSource(6))
	for range 20 {
		env := wild(r)
		before := duplicate(env, false)
		all := func() []any {
			var results []any
			for _, i := range env {
				closure, err := environ.Closure(env, i.Path)
				results = append(results, environ.Add(env, i), environ.Without(env, i.Path), environ.Exports(i), environ.Mentions(i), closure, err, environ.Equal(env, api.Env{i}))
				for _, e := range i.Types {
					lower, upper, err := environ.Bounds(env, e.Upper)
					results = append(results, lower, upper, err)
				}
			}
			return results
		}
		want := all()
		var group sync.WaitGroup
		for range 4 {
			group.Go(func() {
				if !reflect.DeepEqual(all(), want) {
					t.Error("another result in a goroutine")
				}
			})
		}
		group.Wait()
		if !same(env, before) {
			t.Fatal("an argument has changed")
		}
	}
}
