package extract_test

import (
	cryptosha "crypto/sha256"
	"encoding/binary"
	"encoding/hex"
	"math/rand"
	"reflect"
	"slices"
	"strconv"
	"strings"
	"sync"
	"testing"

	"modcert/api"
	"modcert/extract"
	"modcert/syntax"
)

const fullSource = `module m/v1
	import a/v1 as a
	import b/c/v2 as b
	export deprecated "old\n" let z: int = 1
	let first0: none = z.q
	export use b::Far as Near
	export type Pair[+X, -Y, =Z] >: {x: X} <: {} = {x: X}
	type Hidden[+X] = list[X]
	export let pick[B, A <: B, C <: a::Map[A, B]]: fn(c: C, first?: A) list[B] = fn(c: C, first: A = first0) => [B|first]
	export deprecated "" use a::walk as walk
	export deprecated "new" type Open <: any = Pair[int, int, Open]
	use a::Secret as Secret
	export type Alike = <a: int | b: a::Map[Hidden[int], text]>`

// full is a module in which everything occurs that an interface can show, and its interface.
func full() (api.Module, api.Interface) {
	m := resolved(fullSource)
	near := api.AliasEntry{Name: "Near", Module: "b/c/v2", Target: "Far"}
	walk := api.AliasEntry{Name: "walk", Module: "a/v1", Target: "walk"}
	alike := api.Type{Kind: api.TypeVariant, Fields: []api.Field{field("a", integer), field("b", reference("a/v1", "Map", reference("m/v1", "Hidden", integer), text))}}
	variables := func(variances ...int) []api.Param {
		var params []api.Param
		for k, variance := range variances {
			params = append(params, api.Param{Name: "#" + strconv.Itoa(k), Variance: variance})
		}
		return params
	}
	pick := api.ValueEntry{Name: "pick", Params: variables(0, 0, 0), Type: function(list(variable("#0")), field("c", variable("#2")), api.Field{Name: "first", Type: variable("#1"), Optional: true})}
	pick.Params[1].Bound = variable("#0")
	pick.Params[2].Bound = reference("a/v1", "Map", variable("#1"), variable("#0"))
	return m, api.Interface{
		Path: "m/v1",
		Types: []api.TypeEntry{
			{Name: "Alike", Lower: alike, Upper: alike},
			{Name: "Open", Lower: nothing, Upper: anything},
			{Name: "Pair", Params: variables(api.Covariant, api.Contravariant, api.Invariant), Lower: record(field("x", variable("#0"))), Upper: record()},
		},
		Values:     []api.ValueEntry{pick, {Name: "z", Type: integer}},
		Aliases:    []api.AliasEntry{near, walk},
		Deprecated: []api.Deprecation{{Name: "Open", Note: "new"}, {Name: "walk"}, {Name: "z", Note: "old\n"}},
	}
}

// P12.1: the interface of a module with everything, and of modules with nothing.
func TestInterface(t *testing.T) {
	m, want := full()
	if got, err := extract.Interface(m); err != api.OK || !same(got, want) {
		t.Errorf("the interface is %v, error %d", got, err)
	}
	for _, source := range []string{"module m/v1", "module m/v1 import a/v1 as a", "module m/v1 type T = int let a: int = 1", "module m/v1 import a/v1 as a use a::T as T let b[X <: int]: T = 1"} {
		if got, err := extract.Interface(resolved(source)); err != api.OK || !same(got, api.Interface{Path: "m/v1"}) {
			t.Errorf("the interface of %s is %v, error %d", source, got, err)
		}
	}
	got, err := extract.Interface(resolved("module m/v1 export let id[X]: fn(x: X) X = fn(x: X) => x type P = int"))
	id := api.ValueEntry{Name: "id", Params: []api.Param{{Name: "#0"}}, Type: function(variable("#0"), field("x", variable("#0")))}
	if err != api.OK || !same(got, api.Interface{Path: "m/v1", Values: []api.ValueEntry{id}}) {
		t.Errorf("the interface of the example is %v, error %d", got, err)
	}
}

// moduleWith returns a module with one declaration.
func moduleWith(d api.Decl) api.Module {
	return api.Module{Path: "m/v1", Decls: []api.Decl{d}}
}

// P12.1: modules without their form, and exported declarations that are not resolved.
func TestInterfaceErrors(t *testing.T) {
	bad := reference("m", "N")
	deep := list(integer)
	for range api.MaxDepth {
		deep = list(deep)
	}
	unresolved := []api.Decl{
		{Kind: api.DeclType, Name: "T", Lower: bad, Upper: integer, Type: integer},
		{Kind: api.DeclType, Name: "T", Lower: integer, Upper: list(bad), Type: integer},
		{Kind: api.DeclType, Name: "T", Lower: integer, Upper: integer, Type: record(field("a", bad))},
		{Kind: api.DeclType, Name: "T", Lower: nothing, Upper: anything, Type: reference("", "T")},
		{Kind: api.DeclValue, Name: "v", Type: function(integer, field("a", bad))},
		{Kind: api.DeclValue, Name: "v", Type: reference("a/v1", "N", bad)},
		{Kind: api.DeclValue, Name: "v", Type: integer, Params: []api.Param{{Name: "X", Bound: integer}, {Name: "Y", Bound: bad}}},
		{Kind: api.DeclUse, Name: "v", Module: "a", Target: "w"},
		{Kind: api.DeclUse, Name: "T", Module: "a", Target: "T"},
	}
	for i, d := range unresolved {
		private := d
		d.Exported = true
		if got, err := extract.Interface(moduleWith(d)); err != api.ErrArg || !same(got, api.Interface{}) {
			t.Errorf("declaration %d: %v, error %d", i, got, err)
		}
		if got, err := extract.Interface(moduleWith(private)); err != api.OK || !same(got, api.Interface{Path: "m/v1"}) {
			t.Errorf("private declaration %d: %v, error %d", i, got, err)
		}
		wrong := moduleWith(d)
		wrong.Imports = []api.Import{{Path: "a/v1", Alias: "a"}, {Path: "a/v1", Alias: "b"}}
		if _, err := extract.Interface(wrong); err != api.ErrExists {
			t.Errorf("declaration %d of a module without its form: %d", i, err)
		}
	}
	inside := api.Expr{Kind: api.ExprAscribe, Types: []api.Type{bad}, Kids: []api.Expr{{Kind: api.ExprValue, Module: "a", Name: "v"}}}
	value := api.Decl{Kind: api.DeclValue, Exported: true, Name: "v", Type: integer, Expr: inside}
	if got, err := extract.Interface(moduleWith(value)); err != api.OK || len(got.Values) != 1 {
		t.Errorf("an expression that is not resolved: %v, error %d", got, err)
	}
	for i, x := range []struct {
		m    api.Module
		want api.Errno
	}{
		{api.Module{}, api.ErrName},
		{api.Module{Path: "m"}, api.ErrName},
		{api.Module{Path: "m/v1", Imports: []api.Import{{Path: "m/v1", Alias: "m"}}}, api.ErrLoop},
		{api.Module{Path: "m/v1", Decls: make([]api.Decl, api.MaxDecls+1)}, api.ErrTooLarge},
		{moduleWith(api.Decl{Kind: 3, Name: "v"}), api.ErrArg},
		{moduleWith(api.Decl{Kind: api.DeclValue, Name: "v", Type: deep}), api.ErrTooLarge},
		{moduleWith(api.Decl{Kind: api.DeclValue, Name: "v", Exported: true, Type: deep}), api.ErrTooLarge},
		{moduleWith(api.Decl{Kind: api.DeclValue, Name: "v", Note: "x"}), api.ErrArg},
		{moduleWith(api.Decl{Kind: api.DeclValue, Name: "V"}), api.ErrName},
		{api.Module{Path: "m/v1", Decls: []api.Decl{{Kind: api.DeclValue, Name: "v"}, {Kind: api.DeclValue, Name: "v"}}}, api.ErrExists},
	} {
		if got, err := extract.Interface(x.m); err != x.want || !same(got, api.Interface{}) {
			t.Errorf("module %d: %v, error %d, want %d", i, got, err, x.want)
		}
		if _, want := syntax.CheckModule(x.m); want != x.want {
			t.Errorf("module %d is expected to have the error %d", i, want)
		}
	}
}

// P12.1: random modules, whose interfaces have their form.
func TestRandomInterfaces(t *testing.T) {
	r := rand.New(rand.NewSource(20))
	for range 1000 {
		m := randomModule(r)
		if at, err := syntax.CheckModule(m); err != api.OK {
			t.Fatalf("declaration %d of %v: %d", at, m, err)
		}
		got, err := extract.Interface(m)
		if want := interfaceOf(m); err != api.OK || !same(got, want) {
			t.Fatalf("the interface of %v is %v, error %d; want %v", m, got, err, want)
		}
		if !hasForm(got) {
			t.Fatalf("%v does not have its form", got)
		}
	}
}

// decoded returns bytes from hexadecimal digits and texts in quotes, separated by blanks.
func decoded(t *testing.T, source string) string {
	t.Helper()
	var b strings.Builder
	for _, word := range strings.Fields(source) {
		if strings.HasPrefix(word, "'") {
			b.WriteString(strings.Trim(word, "'"))
			continue
		}
		bytes, err := hex.DecodeString(word)
		if err != nil {
			t.Fatal(err)
		}
		b.Write(bytes)
	}
	return b.String()
}

// P12.2: the bytes of interfaces.
func TestBytes(t *testing.T) {
	one := api.Interface{Path: "m/v1", Values: []api.ValueEntry{{Name: "id", Params: []api.Param{{Name: "#0"}}, Type: function(variable("#0"), field("x", variable("#0")))}}}
	const head = "09 'interface' 04 'm/v1' "
	for _, x := range []struct {
		i    api.Interface
		want string
	}{
		{api.Interface{Path: "m/v1"}, head + "00 00 00 00"},
		{one, head + "00 01 02 'id' 01 0000000000 08 00 00 01 09 00 02 '#0' 00 00 01 01 'x' 00 09 00 02 '#0' 00 00 00 00"},
		{
			api.Interface{Path: "m/v1", Types: []api.TypeEntry{{Name: "T", Params: []api.Param{{Name: "#0"}, {Name: "#1", Variance: 1}, {Name: "#2", Variance: 2}}, Lower: nothing, Upper: list(reference("a/v1", "N", text, integer))}}},
			head + "01 01 'T' 03 00 01 02 01 00 00 00 00 05 00 00 01 0a 04 'a/v1' 01 'N' 02 04 00 00 00 00 02 00 00 00 00 00 00 00 00 00",
		},
		{
			api.Interface{Path: "m/v1", Values: []api.ValueEntry{{Name: "f", Type: function(api.Type{Kind: api.TypeVariant, Fields: []api.Field{field("c", api.Type{Kind: api.TypeBool})}}, api.Field{Name: "a", Type: record(), Optional: true}, field("b", integer))}}},
			head + "00 01 01 'f' 00 08 00 00 01 07 00 00 00 01 01 'c' 00 03 00 00 00 00 02 01 'a' 01 06 00 00 00 00 01 'b' 00 02 00 00 00 00 00 00",
		},
		{
			api.Interface{Path: "m/v1", Aliases: []api.AliasEntry{{Name: "U", Module: "a/v1", Target: "T"}, {Name: "u", Module: "b/v1", Target: "v"}}, Deprecated: []api.Deprecation{{Name: "U", Note: "no"}, {Name: "w"}}},
			head + "00 00 02 01 'U' 04 'a/v1' 01 'T' 01 'u' 04 'b/v1' 01 'v' 02 01 'U' 02 'no' 01 'w' 00",
		},
	} {
		want := decoded(t, x.want)
		if got, err := extract.Encode(x.i); err != api.OK || got != want {
			t.Errorf("the bytes of %v are %x, error %d; want %x", x.i, got, err, want)
		}
		if bytesOf(x.i) != want {
			t.Errorf("the bytes of %v are expected to be %x", x.i, want)
		}
		if got, err := extract.Decode(want); err != api.OK || !same(got, x.i) {
			t.Errorf("the interface of %x is %v, error %d", want, got, err)
		}
	}
	_, i := full()
	if got, err := extract.Encode(i); err != api.OK || got != bytesOf(i) {
		t.Errorf("the bytes of %v are %x, error %d", i, got, err)
	}
}

// tagged is a digest as layer 1 says it.
func tagged(texts ...string) string {
	var all []byte
	for _, s := range texts {
		all = append(binary.BigEndian.AppendUint64(all, uint64(len(s))), s...)
	}
	sum := cryptosha.Sum256(all)
	return string(sum[:])
}

// P12.2: digests.
func TestDigest(t *testing.T) {
	_, i := full()
	for _, each := range []api.Interface{{Path: "m/v1"}, i} {
		if got, err := extract.Digest(each); err != api.OK || got != tagged("interface", bytesOf(each)) {
			t.Errorf("the digest of %v is %x, error %d", each, got, err)
		}
	}
}

// checkForm checks whether an interface has its form, with all functions.
func checkForm(t *testing.T, i api.Interface, want bool) {
	t.Helper()
	if hasForm(i) != want {
		t.Errorf("the form of %v is expected to be %v", i, want)
	}
	s, err := extract.Encode(i)
	digest, digestErr := extract.Digest(i)
	if want && (err != api.OK || digestErr != api.OK || s != bytesOf(i) || digest != tagged("interface", s)) {
		t.Errorf("%v has no bytes: errors %d and %d", i, err, digestErr)
	}
	if !want && (err != api.ErrArg || digestErr != api.ErrArg || s != "" || digest != "") {
		t.Errorf("%v has the bytes %q, error %d, and the digest %x, error %d", i, s, err, digest, digestErr)
	}
	if !isNatural(i) {
		return
	}
	// What the bytes do not say cannot be wrong in them.
	shown := duplicate(i)
	for k := range shown.Types {
		for index := range shown.Types[k].Params {
			param := &shown.Types[k].Params[index]
			param.Name, param.Bound = "#"+strconv.Itoa(index), anything
		}
	}
	for k := range shown.Values {
		for index := range shown.Values[k].Params {
			param := &shown.Values[k].Params[index]
			param.Name, param.Variance = "#"+strconv.Itoa(index), 0
		}
	}
	back, err := extract.Decode(bytesOf(i))
	if ok := hasForm(shown); ok != (err == api.OK) || ok && !same(back, shown) || !ok && (err != api.ErrCorrupt || !same(back, api.Interface{})) {
		t.Errorf("the interface of the bytes of %v is %v, error %d", i, back, err)
	}
}

// chain returns a type with a depth.
func chain(depth int) api.Type {
	t := integer
	for range depth - 1 {
		t = list(t)
	}
	return t
}

func numbered(count int) []api.Param {
	var params []api.Param
	for k := range count {
		params = append(params, api.Param{Name: "#" + strconv.Itoa(k)})
	}
	return params
}

// P12.2: the form of the types and values of an interface.
func TestForm(t *testing.T) {
	types := func(list ...api.TypeEntry) api.Interface { return api.Interface{Path: "m/v1", Types: list} }
	values := func(list ...api.ValueEntry) api.Interface { return api.Interface{Path: "m/v1", Values: list} }
	entry := func(t api.Type, params int) api.Interface {
		return types(api.TypeEntry{Name: "T", Params: numbered(params), Lower: nothing, Upper: t})
	}
	value := func(t api.Type, params int) api.Interface {
		return values(api.ValueEntry{Name: "v", Params: numbered(params), Type: t})
	}
	bound := func(t api.Type, params int) api.Interface {
		i := value(integer, params)
		i.Values[0].Params[params-1].Bound = t
		return i
	}
	for _, i := range []api.Interface{
		types(), types(api.TypeEntry{Name: "A"}, api.TypeEntry{Name: "B"}), types(api.TypeEntry{Name: "A0"}, api.TypeEntry{Name: "A_"}),
		entry(variable("#7"), 8), entry(variable("#0"), 1), entry(chain(api.MaxDepth), 0), entry(reference("m/v1", "T"), 0),
		value(variable("#7"), 8), value(chain(api.MaxDepth), 0), bound(variable("#0"), 2), bound(variable("#6"), 8), bound(reference("z/v0", "T", variable("#1")), 3), bound(integer, 1),
		values(api.ValueEntry{Name: "a"}, api.ValueEntry{Name: "b"}), {Path: "m/v1", Types: []api.TypeEntry{{Name: "T"}}, Aliases: []api.AliasEntry{{Name: "T", Module: "m/v1", Target: "T"}}},
	} {
		checkForm(t, i, true)
	}
	for _, i := range []api.Interface{
		{}, {Path: "m"}, {Path: "M/v1"}, {Path: "m/v01"}, {Path: "m/v1/"}, {Path: "module/v1"},
		types(api.TypeEntry{}), types(api.TypeEntry{Name: "a"}), types(api.TypeEntry{Name: "#0"}), types(api.TypeEntry{Name: strings.Repeat("T", 33)}), types(api.TypeEntry{Name: "B"}, api.TypeEntry{Name: "A"}), types(api.TypeEntry{Name: "A"}, api.TypeEntry{Name: "A"}), types(api.TypeEntry{Name: "A"}, api.TypeEntry{Name: "C"}, api.TypeEntry{Name: "B"}),
		values(api.ValueEntry{}), values(api.ValueEntry{Name: "V"}), values(api.ValueEntry{Name: "int"}), values(api.ValueEntry{Name: "b"}, api.ValueEntry{Name: "a"}), values(api.ValueEntry{Name: "a"}, api.ValueEntry{Name: "a"}),
		entry(variable("#0"), 0), entry(variable("#3"), 3), entry(variable("X"), 3), entry(integer, 9), entry(chain(api.MaxDepth+1), 0), entry(reference("m", "T"), 0), entry(reference("", "T"), 0), entry(list(reference("m/v1", "T", reference("", "T"))), 0), entry(api.Type{Kind: 11}, 0), entry(api.Type{Kind: -1}, 0), entry(api.Type{Kind: api.TypeList}, 0), entry(api.Type{Kind: api.TypeInt, Name: "x"}, 0), entry(record(field("b", integer), field("a", integer)), 0), entry(record(api.Field{Name: "a", Optional: true}), 0),
		value(variable("#0"), 0), value(variable("#2"), 2), value(variable("Y"), 1), value(integer, 9), value(chain(api.MaxDepth+1), 0), value(list(reference("m", "T")), 0), value(api.Type{Kind: 99}, 0),
		bound(variable("#0"), 1), bound(variable("#1"), 2), bound(variable("#2"), 2), bound(variable("X"), 2), bound(reference("", "T"), 1), bound(api.Type{Kind: api.TypeFunc}, 1), bound(chain(api.MaxDepth+1), 1),
	} {
		checkForm(t, i, false)
	}
	lower := types(api.TypeEntry{Name: "T", Lower: variable("#0")})
	checkForm(t, lower, false)
	lower.Types[0].Params = numbered(1)
	checkForm(t, lower, true)
	lower.Types[0].Lower = reference("m", "T")
	checkForm(t, lower, false)
	lower.Types[0].Lower = chain(api.MaxDepth + 1)
	checkForm(t, lower, false)
}

// P12.2: the form of parameters, facades and notes, and the limits.
func TestFormOfOthers(t *testing.T) {
	param := func(p api.Param) api.Interface {
		return api.Interface{Path: "m/v1", Types: []api.TypeEntry{{Name: "T", Params: []api.Param{p}}}}
	}
	variableParam := func(p api.Param) api.Interface {
		return api.Interface{Path: "m/v1", Values: []api.ValueEntry{{Name: "v", Params: []api.Param{p}}}}
	}
	alias := func(name, module, target string) api.Interface {
		return api.Interface{Path: "m/v1", Aliases: []api.AliasEntry{{Name: name, Module: module, Target: target}}}
	}
	notes := func(list ...api.Deprecation) api.Interface { return api.Interface{Path: "m/v1", Deprecated: list} }
	long := strings.Repeat("x", api.MaxText)
	for _, i := range []api.Interface{
		param(api.Param{Name: "#0"}), param(api.Param{Name: "#0", Variance: api.Contravariant}), param(api.Param{Name: "#0", Variance: api.Invariant}), variableParam(api.Param{Name: "#0"}), variableParam(api.Param{Name: "#0", Bound: integer}),
		alias("a", "m/v1", "b"), alias("A", "z/y/v999", "B"), alias("a", "m/v1", "a"),
		notes(api.Deprecation{Name: "a"}), notes(api.Deprecation{Name: "A", Note: long}, api.Deprecation{Name: "a", Note: "\x00\xff"}),
	} {
		checkForm(t, i, true)
	}
	for _, i := range []api.Interface{
		param(api.Param{}), param(api.Param{Name: "#1"}), param(api.Param{Name: "X"}), param(api.Param{Name: "#0", Variance: 3}), param(api.Param{Name: "#0", Variance: -1}), param(api.Param{Name: "#0", Bound: integer}), param(api.Param{Name: "#0", Bound: api.Type{Name: "x"}}), param(api.Param{Name: "#0", Bound: api.Type{Args: []api.Type{integer}}}),
		variableParam(api.Param{Name: "#1"}), variableParam(api.Param{Name: "X"}), variableParam(api.Param{Name: "#0", Variance: 1}), variableParam(api.Param{Name: "#0", Variance: 2}), variableParam(api.Param{Name: "#0", Variance: -1}),
		alias("", "m/v1", "b"), alias("a", "m/v1", "B"), alias("A", "m/v1", "b"), alias("a", "m/v1", ""), alias("A", "m/v1", ""), alias("a", "m", "b"), alias("a", "", "b"), alias("let", "m/v1", "b"), alias("a", "m/v1", "let"), alias("#0", "m/v1", "T"),
		{Path: "m/v1", Aliases: []api.AliasEntry{{Name: "b", Module: "m/v1", Target: "c"}, {Name: "a", Module: "m/v1", Target: "c"}}},
		{Path: "m/v1", Aliases: []api.AliasEntry{{Name: "a", Module: "m/v1", Target: "c"}, {Name: "a", Module: "m/v1", Target: "d"}}},
		notes(api.Deprecation{}), notes(api.Deprecation{Name: "let"}), notes(api.Deprecation{Name: "#0"}), notes(api.Deprecation{Name: "a", Note: long + "x"}), notes(api.Deprecation{Name: "a"}, api.Deprecation{Name: "A"}), notes(api.Deprecation{Name: "a"}, api.Deprecation{Name: "a"}),
	} {
		checkForm(t, i, false)
	}
	many := func(types, values, aliases, notes int) api.Interface {
		i := api.Interface{Path: "m/v1"}
		name := func(k int) string { return "x" + strconv.Itoa(100+k) }
		for k := range types {
			i.Types = append(i.Types, api.TypeEntry{Name: "T" + name(k)})
		}
		for k := range values {
			i.Values = append(i.Values, api.ValueEntry{Name: name(k)})
		}
		for k := range aliases {
			i.Aliases = append(i.Aliases, api.AliasEntry{Name: name(k), Module: "m/v1", Target: "x"})
		}
		for k := range notes {
			i.Deprecated = append(i.Deprecated, api.Deprecation{Name: name(k)})
		}
		return i
	}
	for _, counts := range [][4]int{{64, 0, 0, 0}, {0, 64, 0, 0}, {0, 0, 64, 0}, {20, 24, 20, 0}, {1, 1, 1, 800}} {
		checkForm(t, many(counts[0], counts[1], counts[2], counts[3]), true)
	}
	for _, counts := range [][4]int{{65, 0, 0, 0}, {0, 65, 0, 0}, {0, 0, 65, 0}, {22, 22, 21, 0}, {64, 0, 1, 0}} {
		checkForm(t, many(counts[0], counts[1], counts[2], counts[3]), false)
	}
	for _, i := range []api.Interface{many(1, 0, 0, 0), many(0, 1, 0, 0)} {
		for _, nodes := range []int{api.MaxNodes, api.MaxNodes + 1} {
			if len(i.Types) > 0 {
				i.Types[0].Upper = balanced(nodes)
			} else {
				i.Values[0].Type = balanced(nodes)
			}
			checkForm(t, i, nodes <= api.MaxNodes)
		}
	}
}

// balanced returns a type with a number of nodes, and not many fields at one place.
func balanced(nodes int) api.Type {
	t := record()
	left := nodes - 1
	for k := 0; left > 0; k++ {
		size := left
		if k < api.MaxFields-1 {
			size = min(left, (nodes-1+api.MaxFields-1)/api.MaxFields)
		}
		t.Fields = append(t.Fields, field("f"+strconv.Itoa(100+k), balanced(size)))
		left -= size
	}
	return t
}

// checkCorrupt checks that some bytes are those of no interface.
func checkCorrupt(t *testing.T, what, s string) {
	t.Helper()
	if got, err := extract.Decode(s); err != api.ErrCorrupt || !same(got, api.Interface{}) {
		t.Errorf("%s (%x): %v, error %d", what, s[:min(len(s), 200)], got, err)
	}
}

// P12.2: bytes that are those of no interface.
func TestCorrupt(t *testing.T) {
	_, i := full()
	good := bytesOf(i)
	for size := range len(good) {
		checkCorrupt(t, "a beginning", good[:size])
	}
	for _, more := range []string{"\x00", "\x01", "x", good} {
		checkCorrupt(t, "something behind", good+more)
	}
	const head = "09 'interface' 04 'm/v1' "
	for _, source := range []string{
		"", "00", "09 'interface'", "09 'Interface' 04 'm/v1' 00 00 00 00", "00 04 'm/v1' 00 00 00 00", "0a 'interfaces' 04 'm/v1' 00 00 00 00", "09 'interface' 00 00 00 00 00", "8900 'interface' 04 'm/v1' 00 00 00 00", "09 'interface' 8400 'm/v1' 00 00 00 00",
		head + "8000 00 00 00", head + "00 8000 00 00", head + "00 00 8000 00", head + "00 00 00 8000", head + "41 00 00 00", head + "ffffffffffffffff7f 00 00 00", head + "00 ffffffffffffffff7f 00 00", head + "00 00 ffffffffffffffff7f 00", head + "00 00 00 ffffffffffffffff7f", head + "00 00 00 ffffffffffffffffff01", head + "00 00 00 ffffff7f 01 'a' 00",
		// The kind, the module, the name, and the numbers of arguments and fields of a type.
		head + "00 01 01 'v' 00 0b 00 00 00 00 00 00", head + "00 01 01 'v' 00 8200 00 00 00 00 00 00", head + "00 01 01 'v' 00 ffffffffffffffffff01 00 00 00 00 00 00", head + "00 01 01 'v' 00 02 01 'm' 00 00 00 00 00", head + "00 01 01 'v' 00 02 00 01 'm' 00 00 00 00", head + "00 01 01 'v' 00 02 00 00 01 02 00 00 00 00 00 00 00", head + "00 01 01 'v' 00 05 00 00 00 00 00 00", head + "00 01 01 'v' 00 05 00 00 ff01 00 00 00",
		// The optional parameter of a function.
		head + "00 01 01 'v' 00 08 00 00 01 02 00 00 00 00 01 01 'a' 02 02 00 00 00 00 00 00", head + "00 01 01 'v' 00 08 00 00 01 02 00 00 00 00 01 01 'a' 8100 02 00 00 00 00 00 00", head + "00 01 01 'v' 00 06 00 00 00 01 01 'a' 01 02 00 00 00 00 00 00",
		// Variances, and the numbers of parameters.
		head + "01 01 'T' 01 03 02 00 00 00 00 02 00 00 00 00 00 00 00", head + "01 01 'T' 01 8100 02 00 00 00 00 02 00 00 00 00 00 00 00", head + "01 01 'T' 09 00 00 00 00 00 00 00 00 00 02 00 00 00 00 02 00 00 00 00 00 00 00", head + "01 01 'T' ff7f 02 00 00 00 00 02 00 00 00 00 00 00 00",
	} {
		checkCorrupt(t, source, decoded(t, source))
	}
	for _, source := range []string{
		head + "00 01 01 'v' 00 02 00 00 00 00 00 00", head + "00 01 01 'v' 00 08 00 00 01 02 00 00 00 00 01 01 'a' 01 02 00 00 00 00 00 00", head + "01 01 'T' 01 02 02 00 00 00 00 02 00 00 00 00 00 00 00",
	} {
		if _, err := extract.Decode(decoded(t, source)); err != api.OK {
			t.Errorf("%s: %d", source, err)
		}
	}
}

// P1, P12.2: bytes of types that are deeper than a stack, or larger than a type may be.
func TestDeepBytes(t *testing.T) {
	front := quoted("interface", "m/v1") + "\x00\x01\x01v\x00"
	for _, levels := range []int{api.MaxDepth, 1 << 12, 1 << 24} {
		checkCorrupt(t, "a deep type", front+strings.Repeat("\x05\x00\x00\x01", levels))
		checkCorrupt(t, "a deep field", front+strings.Repeat("\x06\x00\x00\x00\x01\x01a\x00", levels))
		checkCorrupt(t, "a deep type with its end", front+strings.Repeat("\x05\x00\x00\x01", levels)+"\x02\x00\x00\x00\x00"+strings.Repeat("\x00", levels)+"\x00\x00")
	}
	fields := strings.Builder{}
	for k := range api.MaxFields {
		fields.WriteString("\x03f" + strconv.Itoa(10+k) + "\x00\x06\x00\x00\x00\x00")
	}
	row := "\x06\x00\x00\x00\x20" + fields.String()
	table := "\x06\x00\x00\x00\x20" + strings.ReplaceAll(fields.String(), "\x06\x00\x00\x00\x00", row)
	cube := "\x06\x00\x00\x00\x20" + strings.ReplaceAll(fields.String(), "\x06\x00\x00\x00\x00", table)
	if _, err := extract.Decode(front + table + "\x00\x00"); err != api.OK {
		t.Errorf("a type with 1057 nodes: %d", err)
	}
	checkCorrupt(t, "a type with 33825 nodes", front+cube+"\x00\x00")
}

// P12.2, P12.3: what is written is read back, and what is read has the bytes from which it was read.
func TestRoundTrip(t *testing.T) {
	r := rand.New(rand.NewSource(21))
	read := 0
	for range 2000 {
		i := interfaceOf(randomModule(r))
		s, err := extract.Encode(i)
		if err != api.OK || s != bytesOf(i) {
			t.Fatalf("the bytes of %v are %x, error %d", i, s, err)
		}
		if back, err := extract.Decode(s); err != api.OK || !same(back, i) {
			t.Fatalf("%v is read as %v, error %d", i, back, err)
		}
		for range 10 {
			bytes := []byte(s)
			for range 1 + r.Intn(2) {
				at := r.Intn(len(bytes))
				switch r.Intn(4) {
				case 0:
					bytes[at] = byte(r.Intn(256))
				case 1:
					bytes[at] ^= 1
				case 2:
					bytes = slices.Insert(bytes, at, byte(r.Intn(12)))
				case 3:
					bytes = append(bytes[:at], bytes[min(at+1, len(bytes)-1):]...)
				}
			}
			back, err := extract.Decode(string(bytes))
			if err == api.OK {
				read++
				if again, err := extract.Encode(back); err != api.OK || again != string(bytes) || !hasForm(back) {
					t.Fatalf("%v was read from %x, and has the bytes %x, error %d", back, bytes, again, err)
				}
			} else if err != api.ErrCorrupt || !same(back, api.Interface{}) {
				t.Fatalf("%x is read as %v, error %d", bytes, back, err)
			}
		}
	}
	if read < 500 {
		t.Errorf("only %d changed strings are read", read)
	}
}

// P12.2: random interfaces, most of which do not have their form.
func TestRandomForms(t *testing.T) {
	r := rand.New(rand.NewSource(22))
	count := map[bool]int{}
	for range 4000 {
		i := interfaceOf(randomModule(r))
		other := random[api.Interface](r, 4)
		switch r.Intn(8) {
		case 0:
			i.Path = other.Path
		case 1:
			i.Types = append(i.Types, other.Types...)
		case 2:
			i.Values = append(i.Values, other.Values...)
		case 3:
			i.Aliases = append(other.Aliases, i.Aliases...)
		case 4:
			i.Deprecated = append(i.Deprecated, other.Deprecated...)
		case 5:
			if len(i.Types) > 0 {
				i.Types[0].Lower = random[api.Type](r, 2)
			}
		case 6:
			if len(i.Values) > 0 {
				i.Values[0].Type = random[api.Type](r, 2)
			}
		}
		checkForm(t, i, hasForm(i))
		count[hasForm(i)]++
	}
	if count[true] < 500 || count[false] < 500 {
		t.Errorf("%d interfaces have their form, %d do not", count[true], count[false])
	}
}

// P12.3: equal interfaces, and no others, have equal bytes and equal digests.
func TestEqualBytes(t *testing.T) {
	r := rand.New(rand.NewSource(23))
	known := map[string]api.Interface{}
	digests := map[string]string{}
	for range 3000 {
		i := interfaceOf(randomModule(r))
		s, err := extract.Encode(i)
		digest, digestErr := extract.Digest(i)
		if err != api.OK || digestErr != api.OK {
			t.Fatalf("%v: errors %d and %d", i, err, digestErr)
		}
		if other, ok := known[s]; ok && !same(other, i) {
			t.Fatalf("%v and %v have the same bytes", i, other)
		}
		if other, ok := digests[digest]; ok && other != s {
			t.Fatalf("%x and %x have the same digest", s, other)
		}
		known[s], digests[digest] = duplicate(i), s
		if again, _ := extract.Encode(duplicate(i)); again != s {
			t.Fatalf("equal interfaces have the bytes %x and %x", s, again)
		}
	}
	empty := api.Interface{Path: "m/v1", Types: []api.TypeEntry{}, Values: []api.ValueEntry{{Name: "v", Params: []api.Param{}, Type: api.Type{Kind: api.TypeRecord, Args: []api.Type{}, Fields: []api.Field{}}}}, Aliases: []api.AliasEntry{}, Deprecated: []api.Deprecation{}}
	a, errA := extract.Encode(empty)
	b, errB := extract.Encode(duplicate(empty))
	if errA != api.OK || errB != api.OK || a != b {
		t.Errorf("with empty lists the bytes are %x, error %d; without lists %x, error %d", a, errA, b, errB)
	}
}

// rewritten returns a module with the same interface: in another order, with other variables, expressions and private declarations.
func rewritten(r *rand.Rand, m api.Module) api.Module {
	m = duplicate(m)
	for i := range m.Decls {
		d := &m.Decls[i]
		names := map[string]string{}
		for k := range d.Params {
			param := &d.Params[k]
			names[param.Name] = "Q" + strconv.Itoa(r.Intn(1000)) + "_" + strconv.Itoa(k)
			param.Bound = renamed(param.Bound, names)
			param.Name = names[param.Name]
		}
		d.Lower, d.Upper = renamed(d.Lower, names), renamed(d.Upper, names)
		if d.Type = renamed(d.Type, names); d.Kind == api.DeclType && r.Intn(2) == 0 {
			d.Type = integer
		}
		if d.Kind == api.DeclValue {
			d.Expr = api.Expr{Kind: api.ExprInt, Number: r.Int()}
		}
	}
	m.Decls = slices.DeleteFunc(m.Decls, func(d api.Decl) bool { return !d.Exported })
	m.Decls = append(m.Decls, api.Decl{Kind: api.DeclType, Name: "Private", Type: reference("", "Q")})
	m.Imports = append(m.Imports, api.Import{Path: "other/v1", Alias: "other"})
	r.Shuffle(len(m.Decls), func(i, j int) { m.Decls[i], m.Decls[j] = m.Decls[j], m.Decls[i] })
	return m
}

// P12.3: the interface depends neither on the order, nor on the names of variables, expressions, and what is private.
func TestIndependence(t *testing.T) {
	r := rand.New(rand.NewSource(24))
	for range 500 {
		m := randomModule(r)
		other := rewritten(r, m)
		a, errA := extract.Interface(m)
		b, errB := extract.Interface(other)
		if errA != api.OK || errB != api.OK || !same(a, b) {
			t.Fatalf("%v has the interface %v, error %d; %v has %v, error %d", m, a, errA, other, b, errB)
		}
	}
}

// everything returns the results of all functions.
func everything(m api.Module, i api.Interface, s string) []any {
	made, makeErr := extract.Interface(m)
	bytes, bytesErr := extract.Encode(i)
	back, backErr := extract.Decode(s)
	digest, digestErr := extract.Digest(i)
	return []any{made, back, bytes, digest, makeErr, bytesErr, backErr, digestErr}
}

// P1, P2, P3: functions end for all arguments, with the same results in several goroutines, which are new memory, and leave their arguments as they are.
func TestSharedUse(t *testing.T) {
	r := rand.New(rand.NewSource(25))
	for k := range 600 {
		m := randomModule(r)
		i := interfaceOf(m)
		if k%3 == 0 {
			m, i = random[api.Module](r, 5), random[api.Interface](r, 5)
		}
		s := bytesOf(interfaceOf(randomModule(r)))
		m2, i2 := duplicate(m), duplicate(i)
		want := everything(m, i, s)
		var group sync.WaitGroup
		for range 4 {
			group.Go(func() {
				if !reflect.DeepEqual(everything(m, i, s), want) {
					t.Error("another result in a goroutine")
				}
			})
		}
		group.Wait()
		if !reflect.DeepEqual(duplicate(m), m2) || !reflect.DeepEqual(duplicate(i), i2) {
			t.Fatal("an argument has changed")
		}
		checkNew(t, "an interface", want[0], m, i)
		checkNew(t, "a decoded interface", want[1], m, i)
	}
	shared := list(integer)
	m := moduleWith(api.Decl{Kind: api.DeclType, Exported: true, Name: "T", Lower: shared, Upper: shared, Type: shared})
	got, err := extract.Interface(m)
	if err != api.OK {
		t.Fatal(err)
	}
	checkNew(t, "a transparent type", got, m)
}
