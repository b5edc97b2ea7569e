package wellformed_test

import (
	"math/rand"
	"reflect"
	"slices"
	"strconv"
	"strings"
	"sync"
	"testing"

	"modcert/api"
	"modcert/environ"
	"modcert/wellformed"
)

// others are modules that the interfaces of the tests mention.
func others() api.Env {
	return api.Env{
		{Path: "a/v1", Types: []api.TypeEntry{entry("N", "", "none", "int"), entry("One", "+", "none", "any")}, Values: []api.ValueEntry{{Name: "v", Type: integer}}, Aliases: []api.AliasEntry{alias("Loop", "a/v1", "Loop"), alias("loop", "a/v1", "loop")}},
	}
}

// complete returns an interface with types, values, facades and notes of which four each serve to be changed: those with the names E0 to E3, e0 to e3, U0 to U3, w0 and w1.
func complete() api.Interface {
	i := moduleOf("A +-= none <: fn(x: X1) {a: X0, b: m::A[X0, X1, X2], c: a::One[X2]}", "B . {next: m::B} <: {next: m::Own}", "E0 . int <: int", "E1 . int <: int", "E2 . int <: int", "E3 . int <: int",
		"Own = m::B", "U0 = a::N", "U1 = a::One", "U2 = m::U1", "U3 = a::N")
	i.Values = []api.ValueEntry{{Name: "e0", Type: integer}, {Name: "e1", Type: integer}, {Name: "e2", Type: integer}, {Name: "e3", Type: integer},
		{Name: "f", Params: bounded("any", "list[X0]", "m::A[X1, X0, int]"), Type: typed("fn(x: X2) m::A[X0, X1, X2]")}, {Name: "g", Type: typed("fn(x: m::U2[int]) m::Own")}}
	i.Aliases = append(i.Aliases, alias("w0", "a/v1", "v"), alias("w1", "m/v1", "w0"))
	i.Deprecated = []api.Deprecation{{Name: "B", Note: "old"}, {Name: "E0"}, {Name: "E1"}, {Name: "E2"}, {Name: "E3", Note: strings.Repeat("x", api.MaxText)}, {Name: "U3", Note: "use N"}, {Name: "f"}, {Name: "w0"}}
	return i
}

// breakage is a change of the complete interface, with the name and the error that it leads to.
type breakage struct {
	name   string
	err    api.Errno
	change func(i *api.Interface)
}

// breakages returns changes in the order in which the checks find them; any two of them can be made together.
func breakages() []breakage {
	insert := func(i *api.Interface, e api.AliasEntry) {
		at := slices.IndexFunc(i.Aliases, func(other api.AliasEntry) bool { return other.Name > e.Name })
		i.Aliases = slices.Insert(i.Aliases, at, e)
	}
	facade := func(i *api.Interface, name string) *api.AliasEntry {
		return &i.Aliases[slices.IndexFunc(i.Aliases, func(e api.AliasEntry) bool { return e.Name == name })]
	}
	return []breakage{
		{"", api.ErrName, func(i *api.Interface) { i.Path = "m" }},
		{"", api.ErrTooLarge, func(i *api.Interface) {
			for k := len(i.Types) + len(i.Values) + len(i.Aliases); k <= api.MaxDecls; k++ {
				i.Aliases = append(i.Aliases, alias("z"+strconv.Itoa(100+k), "a/v1", "v"))
			}
		}},
		{"if", api.ErrName, func(i *api.Interface) { i.Types[2].Name = "if" }},
		{"E0", api.ErrExists, func(i *api.Interface) { i.Types[3].Name = "E0" }},
		{"D", api.ErrArg, func(i *api.Interface) { i.Types[5].Name = "D" }},
		{"E0", api.ErrName, func(i *api.Interface) { i.Values[0].Name = "E0" }},
		{"e0", api.ErrExists, func(i *api.Interface) { i.Values[1].Name = "e0" }},
		{"e", api.ErrArg, func(i *api.Interface) { i.Values[3].Name = "e" }},
		{"", api.ErrName, func(i *api.Interface) { facade(i, "U0").Name = "" }},
		{"U0", api.ErrExists, func(i *api.Interface) { facade(i, "U1").Name = "U0" }},
		{"T", api.ErrArg, func(i *api.Interface) { facade(i, "U3").Name = "T" }},
		{"_", api.ErrName, func(i *api.Interface) { i.Deprecated[1].Name = "_" }},
		{"E0", api.ErrExists, func(i *api.Interface) { i.Deprecated[2].Name = "E0" }},
		{"A", api.ErrArg, func(i *api.Interface) { i.Deprecated[4].Name = "A" }},
		{"B", api.ErrExists, func(i *api.Interface) { insert(i, alias("B", "z/v1", "N")) }},
		{"f", api.ErrExists, func(i *api.Interface) { insert(i, alias("f", "z/v1", "n")) }},
		{"A", api.ErrArg, func(i *api.Interface) { i.Types[0].Params[2].Variance = 3 }},
		{"B", api.ErrNotFound, func(i *api.Interface) { i.Types[1].Upper = typed("list[a::M]") }},
		{"f", api.ErrName, func(i *api.Interface) { i.Values[4].Params[2].Name = "X" }},
		{"g", api.ErrArity, func(i *api.Interface) { i.Values[5].Type = typed("a::N[int]") }},
		{"U3", api.ErrLoop, func(i *api.Interface) { facade(i, "U3").Target = "Loop" }},
		{"w0", api.ErrNotFound, func(i *api.Interface) { facade(i, "w0").Target = "u" }},
		{"Old", api.ErrNotFound, func(i *api.Interface) { i.Deprecated = slices.Insert(i.Deprecated, 5, api.Deprecation{Name: "Old"}) }},
		{"w1", api.ErrTooLarge, func(i *api.Interface) {
			i.Deprecated = append(i.Deprecated, api.Deprecation{Name: "w1", Note: strings.Repeat("x", api.MaxText+1)})
		}},
	}
}

func checkInterface(t *testing.T, what string, i api.Interface, name string, err api.Errno) {
	t.Helper()
	if gotName, got := wellformed.Interface(append(others(), i), i.Path); gotName != name || got != err {
		t.Errorf("%s: the interface has the error %d at %q, not %d at %q", what, got, gotName, err, name)
	}
}

// P8.3: the first check that fails, of one and of two changes.
func TestInterface(t *testing.T) {
	checkInterface(t, "no change", complete(), "", api.OK)
	checkInterface(t, "an empty interface", api.Interface{Path: "m/v1"}, "", api.OK)
	list := breakages()
	for a := range list {
		one := complete()
		list[a].change(&one)
		checkInterface(t, "change "+strconv.Itoa(a), one, list[a].name, list[a].err)
		for b := a + 1; b < len(list); b++ {
			two := complete()
			// The later change comes first, because it looks for what it changes by its place.
			list[b].change(&two)
			list[a].change(&two)
			checkInterface(t, "changes "+strconv.Itoa(a)+" and "+strconv.Itoa(b), two, list[a].name, list[a].err)
		}
	}
	for _, path := range []string{"", "m", "m/v2", "a/v10"} {
		if name, err := wellformed.Interface(append(others(), complete()), path); name != "" || err != api.ErrNotFound {
			t.Errorf("the interface with the path %q has the error %d at %q", path, err, name)
		}
	}
	broken := complete()
	broken.Types[0].Name = "a"
	if name, err := wellformed.Interface(append(others(), complete(), broken), "m/v1"); name != "" || err != api.OK {
		t.Errorf("of two interfaces with one path, not the first one counts: error %d at %q", err, name)
	}
	if name, err := wellformed.Interface(append(others(), broken, complete()), "m/v1"); name != "a" || err != api.ErrName {
		t.Errorf("of two interfaces with one path, not the first one counts: error %d at %q", err, name)
	}
}

// P8.3: check 1, paths and the number of entries.
func TestHead(t *testing.T) {
	for _, path := range []string{"", "m", "M/v1", "m/v01", "m/1", "m/v1000", "if/v1", "m/v1/", "#0"} {
		i := api.Interface{Path: path}
		checkInterface(t, path, i, "", api.ErrName)
	}
	for _, path := range []string{"m/v0", "b/c/v999"} {
		checkInterface(t, path, api.Interface{Path: path}, "", api.OK)
	}
	for types := range 3 {
		for _, count := range []int{api.MaxDecls, api.MaxDecls + 1} {
			i := api.Interface{Path: "m/v1"}
			for k := range count {
				switch {
				case k < types*20:
					i.Types = append(i.Types, api.TypeEntry{Name: "T" + strconv.Itoa(100+k)})
				case k < types*30:
					i.Values = append(i.Values, api.ValueEntry{Name: "v" + strconv.Itoa(100+k)})
				default:
					i.Aliases = append(i.Aliases, alias("w"+strconv.Itoa(100+k), "a/v1", "v"))
				}
			}
			want := api.OK
			if count > api.MaxDecls {
				want = api.ErrTooLarge
			}
			checkInterface(t, strconv.Itoa(count)+" entries", i, "", want)
		}
	}
}

// P8.3: check 2, the names of all lists.
func TestNames(t *testing.T) {
	long := strings.Repeat("x", api.MaxName)
	for name, kinds := range map[string]string{"": "", "a": "vad", "aB_9": "vad", "A": "tad", "Ab_9": "tad", "_": "", "1": "", "#0": "", "int": "", "let": "", "a/v1": "", "a ": "", long: "vad", long + "x": "", "X" + long[1:]: "tad", "X" + long: ""} {
		for kind, i := range map[string]api.Interface{
			"t": {Types: []api.TypeEntry{{Name: name}}}, "v": {Values: []api.ValueEntry{{Name: name}}}, "a": {Aliases: []api.AliasEntry{alias(name, "a/v1", "")}}, "d": {Deprecated: []api.Deprecation{{Name: name}}},
		} {
			i.Path = "m/v1"
			got, err := wellformed.Interface(append(others(), i), "m/v1")
			want, wantName := api.OK, name
			switch {
			case kind == "d" && strings.Contains(kinds, kind):
				want = api.ErrNotFound
			case kind == "a" || !strings.Contains(kinds, kind):
				want = api.ErrName // a facade without a target has the same error behind the check
			}
			if want == api.OK {
				wantName = ""
			}
			if got != wantName || err != want {
				t.Errorf("an element %s with the name %q has the error %d at %q", kind, name, err, got)
			}
		}
	}
	// A name of a facade that is right comes behind the error of a later name.
	for name, want := range map[string]string{"a": "9", "A": "9", "let": "let", "1": "1"} {
		checkInterface(t, name, api.Interface{Path: "m/v1", Aliases: []api.AliasEntry{alias(name, "a/v1", "")}, Deprecated: []api.Deprecation{{Name: "9"}}}, want, api.ErrName)
	}
}

// P8.3: check 3, one name in two lists.
func TestCollisions(t *testing.T) {
	i := api.Interface{Path: "m/v1", Types: []api.TypeEntry{{Name: "A"}, {Name: "C"}}, Values: []api.ValueEntry{{Name: "a"}, {Name: "c"}}, Deprecated: []api.Deprecation{{Name: "A"}, {Name: "a"}}}
	for name, want := range map[string]api.Errno{"A": api.ErrExists, "B": api.OK, "C": api.ErrExists, "a": api.ErrExists, "b": api.OK, "c": api.ErrExists} {
		target := "v"
		if name < "a" {
			target = "N"
		}
		i.Aliases = []api.AliasEntry{alias(name, "a/v1", target)}
		at := name
		if want == api.OK {
			at = ""
		}
		checkInterface(t, "the facade "+name, i, at, want)
	}
	i.Aliases = []api.AliasEntry{alias("C", "z/v1", "N"), alias("a", "z/v1", "n")}
	checkInterface(t, "two facades", i, "C", api.ErrExists)
}

// entryError returns the error of an entry, which has to be that of the interface, because all others are right.
func entryError(t *testing.T, i api.Interface, name string) api.Errno {
	t.Helper()
	i.Path = "m/v1"
	env := append(others(), i)
	err := wellformed.Entry(env, "m/v1", name)
	at, whole := wellformed.Interface(env, "m/v1")
	if whole != err || err != api.OK && at != name {
		t.Errorf("the entry %s has the error %d, but the interface has the error %d at %q", name, err, whole, at)
	}
	return err
}

// P8.3: check 4, the errors of types, of which the first one counts.
func TestTypeEntries(t *testing.T) {
	check := func(e api.TypeEntry) api.Errno { return entryError(t, api.Interface{Types: []api.TypeEntry{e}}, "N") }
	wide := entry("N", "+++++++++", "X7", "m::N[X0]")
	wide.Params[1] = api.Param{Name: "#2", Variance: 3, Bound: integer}
	wide.Params[2] = api.Param{Name: "#2", Variance: -1, Bound: integer}
	ladder(t, wide, check, []api.Errno{api.ErrTooLarge, api.ErrName, api.ErrArg, api.ErrArg, api.ErrArg, api.ErrArg, api.ErrArity, api.ErrLoop},
		func(e *api.TypeEntry) { e.Params = e.Params[:8] },
		func(e *api.TypeEntry) { e.Params[1].Name = "#1" },
		func(e *api.TypeEntry) { e.Params[1].Variance = api.Contravariant },
		func(e *api.TypeEntry) { e.Params[1].Bound = anything },
		func(e *api.TypeEntry) { e.Params[2].Variance = api.Invariant },
		func(e *api.TypeEntry) { e.Params[2].Bound = anything },
		func(e *api.TypeEntry) {
			e.Upper.Args = []api.Type{variable("#0"), variable("#1"), variable("#2"), variable("#3"), variable("#4"), variable("#5"), variable("#6"), variable("#7")}
		},
		func(e *api.TypeEntry) { e.Upper = api.Type{Kind: api.TypeList, Args: []api.Type{e.Upper}} })
	ladder(t, api.TypeEntry{Name: "N", Params: params("+"), Lower: api.Type{Kind: 11}, Upper: api.Type{Kind: 12}}, check, []api.Errno{api.ErrArg, api.ErrName, api.ErrArg, api.ErrNotFound, api.ErrVariance, api.ErrVariance, api.ErrLoop, api.ErrLoop, api.ErrLoop, api.ErrLoop},
		func(e *api.TypeEntry) { e.Lower = typed("fn(a: X0) X1") },
		func(e *api.TypeEntry) { e.Lower = typed("fn(a: X0) m::N[int]") },
		func(e *api.TypeEntry) { e.Upper = typed("fn(a: m::N[X0]) a::M") },
		func(e *api.TypeEntry) { e.Upper = typed("fn(a: m::N[X0]) int") },
		func(e *api.TypeEntry) { e.Lower = typed("m::N[X0]") },
		func(e *api.TypeEntry) { e.Upper = typed("m::N[X0]") },
		func(e *api.TypeEntry) { e.Lower = typed("list[m::N[X0]]") },
		func(e *api.TypeEntry) { e.Upper = typed("list[m::N[int]]") },
		func(e *api.TypeEntry) { e.Upper, e.Lower = typed("X0"), typed("list[m::N[a::N]]") },
		func(e *api.TypeEntry) { e.Lower = anything })
	for signs, want := range map[string]api.Errno{"": api.OK, "+": api.OK, "-": api.OK, "=": api.OK, "+-=+-=+-": api.OK, "+-=+-=+-=": api.ErrTooLarge} {
		if got := check(entry("N", signs, "none", "any")); got != want {
			t.Errorf("the variances %s have the error %d", signs, got)
		}
	}
	for name, want := range map[string]api.Errno{"#0": api.OK, "#1": api.ErrName, "": api.ErrName, "0": api.ErrName, "A": api.ErrName, "#00": api.ErrName, "#": api.ErrName} {
		if got := check(api.TypeEntry{Name: "N", Params: []api.Param{{Name: name}}}); got != want {
			t.Errorf("the parameter %q has the error %d", name, got)
		}
	}
	for variance := -2; variance < 6; variance++ {
		for _, bound := range []api.Type{anything, {Args: []api.Type{}, Fields: []api.Field{}}, integer, {Kind: api.TypeNone}, variable("#0"), {Name: "A"}} {
			want := api.OK
			if variance < 0 || variance > 2 || !same(bound, anything) {
				want = api.ErrArg
			}
			if got := check(api.TypeEntry{Name: "N", Params: []api.Param{{Name: "#0", Variance: variance, Bound: bound}}}); got != want {
				t.Errorf("the variance %d and the bound %v have the error %d", variance, bound, got)
			}
		}
	}
}

// P8.3: check 4, variances in both bounds.
func TestVariances(t *testing.T) {
	for source, want := range map[string]string{"X0": "+=", "fn(a: X0) int": "-=", "fn(a: X0) X0": "=", "int": "+-=", "list[m::N[X0]]": "+-=", "fn(a: m::N[X0]) int": "=", "a::One[X0]": "+=", "fn(a: a::One[X0]) int": "-=", "fn(a: fn(b: X0) int) int": "+="} {
		for _, sign := range "+-=" {
			want := strings.ContainsRune(want, sign)
			for _, e := range []api.TypeEntry{entry("N", string(sign), source, "any"), entry("N", string(sign), "none", source), entry("N", string(sign), source, source)} {
				if got := entryError(t, api.Interface{Types: []api.TypeEntry{e}}, "N"); (got == api.OK) != want || !want && got != api.ErrVariance {
					t.Errorf("%v has the error %d", e, got)
				}
			}
		}
	}
}

// P8.3: check 5, the errors of values, of which the first one counts.
func TestValueEntries(t *testing.T) {
	check := func(e api.ValueEntry) api.Errno {
		return entryError(t, api.Interface{Values: []api.ValueEntry{e}}, "v")
	}
	many := api.ValueEntry{Name: "v", Params: bounded("X0", "X2", "int", "int", "int", "int", "int", "int", "int"), Type: typed("fn(a: X8) X7")}
	many.Params[0].Variance, many.Params[0].Name = 1, "X"
	ladder(t, many, check, []api.Errno{api.ErrTooLarge, api.ErrName, api.ErrArg, api.ErrName, api.ErrName, api.ErrName},
		func(e *api.ValueEntry) { e.Params = e.Params[:8] },
		func(e *api.ValueEntry) { e.Params[0].Name = "#0" },
		func(e *api.ValueEntry) { e.Params[0].Variance = 0 },
		func(e *api.ValueEntry) { e.Params[0].Bound = integer },
		func(e *api.ValueEntry) { e.Params[1].Bound = typed("X0") },
		func(e *api.ValueEntry) { e.Type = typed("fn(a: X0) X7") })
	for i, x := range []struct {
		bounds []string
		t      string
		want   api.Errno
	}{
		{nil, "int", api.OK}, {nil, "X0", api.ErrName}, {[]string{"any"}, "X0", api.OK}, {[]string{"any"}, "X1", api.ErrName}, {[]string{"X0"}, "int", api.ErrName}, {[]string{"X1", "int"}, "int", api.ErrName}, {[]string{"int", "X0"}, "int", api.OK}, {[]string{"int", "X1"}, "int", api.ErrName},
		{[]string{"any", "list[X0]", "fn(a: X0) X1"}, "fn(a: X0, b: X1) X2", api.OK}, {[]string{"any", "a::N[X0]"}, "X7", api.ErrArity}, {[]string{"any", "a::M", "z::M[X2]"}, "int", api.ErrNotFound}, {[]string{"a::Loop", "X2"}, "int", api.ErrLoop}, {[]string{"any"}, "a::One[X0, X0]", api.ErrArity}, {nil, "fn(a: a::Loop) int", api.ErrLoop}, {nil, "list[m::N]", api.ErrNotFound},
	} {
		if got := check(api.ValueEntry{Name: "v", Params: bounded(x.bounds...), Type: typed(x.t)}); got != x.want {
			t.Errorf("example %d has the error %d", i, got)
		}
	}
	for variance := -1; variance < 4; variance++ {
		if got := check(api.ValueEntry{Name: "v", Params: []api.Param{{Name: "#0", Variance: variance}}}); (got == api.OK) != (variance == 0) || variance != 0 && got != api.ErrArg {
			t.Errorf("the variance %d has the error %d", variance, got)
		}
	}
	if got := check(api.ValueEntry{Name: "v", Type: deep(api.MaxDepth + 1)}); got != api.ErrTooLarge {
		t.Errorf("a deep type has the error %d", got)
	}
}

// P8.3: check 6, facades.
func TestAliasEntries(t *testing.T) {
	for _, x := range []struct {
		name, module, target string
		want                 api.Errno
	}{
		{"T", "a/v1", "N", api.OK}, {"T", "a/v1", "One", api.OK}, {"t", "a/v1", "v", api.OK}, {"T", "m/v1", "Other", api.OK}, {"t", "m/v1", "other", api.OK},
		{"T", "a/v1", "v", api.ErrName}, {"t", "a/v1", "N", api.ErrName}, {"t", "z/v1", "N", api.ErrName}, {"T", "a/v1", "", api.ErrName}, {"t", "a/v1", "", api.ErrName}, {"t", "a/v1", "if", api.ErrName}, {"T", "a/v1", "#0", api.ErrName}, {"T", "", "n", api.ErrName},
		{"T", "a/v1", "M", api.ErrNotFound}, {"t", "a/v1", "w", api.ErrNotFound}, {"T", "z/v1", "N", api.ErrNotFound}, {"t", "z/v1", "v", api.ErrNotFound}, {"T", "", "N", api.ErrNotFound}, {"T", "m/v1", "Z", api.ErrNotFound},
		{"T", "a/v1", "Loop", api.ErrLoop}, {"t", "a/v1", "loop", api.ErrLoop}, {"T", "m/v1", "T", api.ErrLoop}, {"t", "m/v1", "t", api.ErrLoop},
	} {
		i := api.Interface{Aliases: []api.AliasEntry{alias("Other", "a/v1", "N"), alias("other", "a/v1", "v"), alias(x.name, x.module, x.target)}}
		slices.SortFunc(i.Aliases, func(a, b api.AliasEntry) int { return strings.Compare(a.Name, b.Name) })
		if got := entryError(t, i, x.name); got != x.want {
			t.Errorf("the facade %s of %s::%s has the error %d", x.name, x.module, x.target, got)
		}
	}
}

// P8.3: check 7, deprecated names.
func TestNotes(t *testing.T) {
	i := api.Interface{Path: "m/v1", Types: []api.TypeEntry{{Name: "N"}}, Values: []api.ValueEntry{{Name: "v"}}, Aliases: []api.AliasEntry{alias("T", "a/v1", "N"), alias("t", "a/v1", "v")}}
	for _, name := range []string{"N", "v", "T", "t", "M", "w", "n"} {
		for size, want := range map[int]api.Errno{0: api.OK, api.MaxText: api.OK, api.MaxText + 1: api.ErrTooLarge} {
			at := name
			if len(name) == 1 && strings.Contains("Mwn", name) {
				want = api.ErrNotFound
			}
			if want == api.OK {
				at = ""
			}
			i.Deprecated = []api.Deprecation{{Name: name, Note: strings.Repeat("\xff", size)}}
			checkInterface(t, "the note of "+name, i, at, want)
		}
	}
}

// P8.3: Entry finds an entry as layer 7 does, and makes only the checks 4 to 6, for this entry.
func TestEntry(t *testing.T) {
	i := moduleOf("N . none <: a::M", "N . none <: int", "Good . none <: m::Bad[m::Good]", "Bad + none <: fn(a: X0) X1", "t . none <: X1", "T . none <: a::Loop", "T = a::N", "U = a::N", "U = a::M", "v = a::M", "w = a::v")
	i.Path = "m"
	i.Values = []api.ValueEntry{{Name: "v", Type: integer}, {Name: "t", Type: integer}, {Name: "x", Type: typed("a::N[int]")}, {Name: "v", Type: typed("X0")}, {Name: "X", Type: integer}}
	i.Deprecated = []api.Deprecation{{Name: "gone"}, {Name: "gone"}}
	for k := range 100 {
		i.Aliases = append(i.Aliases, alias("z"+strconv.Itoa(k), "a/v1", "v"))
	}
	second := api.Interface{Path: "m", Types: []api.TypeEntry{{Name: "N"}, {Name: "New"}}}
	for name, want := range map[string]api.Errno{"N": api.ErrNotFound, "Good": api.ErrNotFound, "Bad": api.ErrName, "t": api.ErrName, "T": api.ErrLoop, "U": api.OK, "v": api.OK, "w": api.OK, "x": api.ErrArity, "X": api.OK, "z0": api.OK, "z99": api.OK, "gone": api.ErrNotFound, "New": api.ErrNotFound, "": api.ErrNotFound, "n": api.ErrNotFound} {
		if got := wellformed.Entry(append(others(), i, second), "m", name); got != want {
			t.Errorf("the entry %q has the error %d, not %d", name, got, want)
		}
	}
	good := complete()
	for _, name := range environ.Exports(good) {
		if got := wellformed.Entry(append(others(), good), "m/v1", name); got != api.OK {
			t.Errorf("the entry %q has the error %d", name, got)
		}
	}
	for _, path := range []string{"", "m", "m/v2"} {
		if got := wellformed.Entry(append(others(), good), path, "B"); got != api.ErrNotFound {
			t.Errorf("an entry of %q has the error %d", path, got)
		}
	}
}

// leading returns modules from words like a:bc, a module that mentions others.
func leading(words string) api.Env {
	var env api.Env
	for _, word := range strings.Fields(words) {
		name, targets, _ := strings.Cut(word, ":")
		i := api.Interface{Path: name + "/v1", Types: []api.TypeEntry{{Name: "N"}}, Values: []api.ValueEntry{{Name: "v"}}}
		for k, target := range targets {
			module := string(target) + "/v1"
			switch k % 3 {
			case 0:
				i.Values[0].Type = api.Type{Kind: api.TypeList, Args: []api.Type{reference(module, "N")}}
			case 1:
				i.Aliases = append(i.Aliases, alias("w"+strconv.Itoa(k), module, "v"))
			case 2:
				i.Types[0].Upper = api.Type{Kind: api.TypeList, Args: []api.Type{reference(module, "N")}}
			}
		}
		env = append(env, i)
	}
	return env
}

func checkEnv(t *testing.T, what string, env api.Env, path string, err api.Errno) {
	t.Helper()
	if gotPath, got := wellformed.Env(env); gotPath != path || got != err {
		t.Errorf("%s: the environment has the error %d at %q, not %d at %q", what, got, gotPath, err, path)
	}
}

// P8.3: modules that depend on themselves.
func TestDependence(t *testing.T) {
	for words, first := range map[string]string{
		"": "", "a": "", "a:a": "", "a b:a c:ab": "", "a:b b": "", "a:bc b:c c": "", "a:aaa b:bab": "", "a:b b:a": "a/v1", "a b:c c:b": "b/v1", "a:b b:c c:a": "a/v1", "a:b b:c c:b": "b/v1", "a:d b:a c:ab d:a": "a/v1", "a b:a c:abd d:c e:d": "c/v1",
		"a:b b:c c:d d:e e:f f:d": "d/v1", "a:aab b:bba": "a/v1", "a b:aad c d:ab": "b/v1", "a:b b c:d d:c e:f f:e": "c/v1",
	} {
		want := api.OK
		if first != "" {
			want = api.ErrLoop
		}
		checkEnv(t, words, leading(words), first, want)
	}
}

// P8.3: the order of the checks of an environment.
func TestEnv(t *testing.T) {
	checkEnv(t, "complete", append(others(), complete()), "a/v1", api.ErrLoop) // a facade of itself
	good := append(others(), complete())
	good[0].Aliases = nil
	checkEnv(t, "complete", good, "", api.OK)
	many := func(count int) api.Env {
		var env api.Env
		for k := range count {
			env = append(env, api.Interface{Path: "m" + strconv.Itoa(100+k) + "/v1"})
		}
		return env
	}
	checkEnv(t, "64 interfaces", many(api.MaxModules), "", api.OK)
	checkEnv(t, "65 interfaces", many(api.MaxModules+1), "", api.ErrTooLarge)
	checkEnv(t, "65 interfaces with one path", make(api.Env, api.MaxModules+1), "", api.ErrTooLarge)
	checkEnv(t, "no path", api.Env{{}}, "", api.ErrName)
	checkEnv(t, "bytes", api.Env{{Path: "a/v10"}, {Path: "a/v2"}}, "", api.OK)
	checkEnv(t, "bytes", api.Env{{Path: "a/v2"}, {Path: "a/v10"}}, "a/v10", api.ErrArg)
	checkEnv(t, "an invalid path that is less", api.Env{{Path: "b/v1"}, {Path: "A"}}, "A", api.ErrArg)
	checkEnv(t, "an invalid path twice", api.Env{{Path: "b"}, {Path: "b"}}, "b", api.ErrName)
	for words, want := range map[string]struct {
		path string
		err  api.Errno
	}{
		"a a": {"a/v1", api.ErrExists}, "b a": {"a/v1", api.ErrArg}, "a b b a": {"b/v1", api.ErrExists}, "a c b b": {"b/v1", api.ErrArg}, "a:z b b": {"a/v1", api.ErrNotFound}, "a b:z b": {"b/v1", api.ErrNotFound}, "a b b:z": {"b/v1", api.ErrExists}, "a c b:z": {"b/v1", api.ErrArg},
		"a:b b:a c:z": {"c/v1", api.ErrNotFound}, "a:b b:a d c": {"c/v1", api.ErrArg}, "a:b b:a c c": {"c/v1", api.ErrExists}, "a:cb b:a c": {"a/v1", api.ErrLoop}, "a b:z c:y": {"b/v1", api.ErrNotFound}, "a:b": {"a/v1", api.ErrNotFound}, "b:a a": {"a/v1", api.ErrArg},
	} {
		checkEnv(t, words, leading(words), want.path, want.err)
	}
	for a, x := range breakages() {
		i := complete()
		x.change(&i)
		env := append(slices.Clone(good[:1]), i)
		want := x.err
		if x.name == "U3" {
			want = api.ErrNotFound // the facade that leads to itself is gone
		}
		checkEnv(t, "change "+strconv.Itoa(a), env, i.Path, want)
	}
}

// P8.3: the environments of the generator are well-formed, and so are their interfaces and entries.
func TestRandomEnvs(t *testing.T) {
	for seed := range int64(500) {
		env := randomEnv(seed)
		if path, err := wellformed.Env(env); path != "" || err != api.OK {
			t.Fatalf("%v has the error %d at %s", env, err, path)
		}
		for _, i := range env {
			if name, err := wellformed.Interface(env, i.Path); name != "" || err != api.OK {
				t.Fatalf("%v has the error %d at %s", i, err, name)
			}
			for _, name := range environ.Exports(i) {
				if err := wellformed.Entry(env, i.Path, name); err != api.OK {
					t.Fatalf("%s of %v has the error %d", name, i, err)
				}
			}
		}
	}
}

// P8.4: bounds that are taken again and again end at a type that is no reference.
func TestBoundsEnd(t *testing.T) {
	steps, longest := 0, 0
	for seed := range int64(500) {
		env := randomEnv(seed)
		for _, i := range env {
			for _, e := range i.Types {
				for _, lower := range []bool{true, false} {
					x := reference(i.Path, e.Name)
					for k := range e.Params {
						x.Args = append(x.Args, variable("#"+strconv.Itoa(k)))
					}
					count := 0
					for x.Kind == api.TypeRef {
						low, high, err := environ.Bounds(env, x)
						if err != api.OK || count > 1000 {
							t.Fatalf("behind %d steps from %s::%s there is the error %d", count, i.Path, e.Name, err)
						}
						if x = high; lower {
							x = low
						}
						count++
					}
					steps, longest = steps+count, max(longest, count)
				}
			}
		}
	}
	if steps < 1000 || longest < 4 {
		t.Errorf("only %d steps, and at most %d in one go", steps, longest)
	}
}

// everything returns the results of all functions for an environment, which need not have any form.
func everything(env api.Env) []any {
	var results []any
	add := func(list ...any) { results = append(results, list...) }
	path, err := wellformed.Env(env)
	add(path, err)
	for _, i := range env {
		name, err := wellformed.Interface(env, i.Path)
		add(name, err, wellformed.Groups(i))
		for _, name := range environ.Exports(i) {
			add(wellformed.Entry(env, i.Path, name))
		}
		for _, e := range i.Types {
			positive, negative := wellformed.Positions(env, e.Lower, "#0")
			add(positive, negative, wellformed.Respects(env, e.Params, e.Upper), wellformed.Type(env, []string{"A", "#0"}, e.Upper))
		}
	}
	return results
}

// P1, P2, P3: functions end for environments without any form, in several goroutines, with the same results, and leave their arguments as they are.
func TestSharedUse(t *testing.T) {
	r := rand.New(rand.NewSource(4))
	envs := []api.Env{nil, {{}}, append(others(), complete())}
	for range 60 {
		env := random[api.Env](r, 7)
		for i := range env {
			env[i].Path = []string{"a/v1", "b/v1", "a"}[r.Intn(3)]
		}
		envs = append(envs, env, randomEnv(r.Int63()), api.Env{randomModule(r)})
	}
	for _, env := range envs {
		before := duplicate(env)
		want := everything(env)
		var group sync.WaitGroup
		for range 4 {
			group.Go(func() {
				if !reflect.DeepEqual(everything(env), want) {
					t.Error("another result in a goroutine")
				}
			})
		}
		group.Wait()
		if !same(env, before) {
			t.Fatal("an argument has changed")
		}
	}
}

// P3: a change of a group changes no other one.
func TestGroupsAreNew(t *testing.T) {
	i := moduleOf("A . none <: list[m::B]", "B . none <: list[m::A]", "C . none <: list[m::D]", "D . none <: list[m::C]", "E . none <: list[m::E]")
	groups := wellformed.Groups(i)
	groups[0] = append(groups[0], "X")
	groups[0][0], groups[0][1] = "Y", "Z"
	if !slices.Equal(groups[1], []string{"C", "D"}) || !slices.Equal(groups[2], []string{"E"}) || i.Types[0].Name != "A" || !slices.Equal(wellformed.Groups(i)[0], []string{"A", "B"}) {
		t.Errorf("a change of a group has changed %v or %v", groups, i.Types)
	}
}
