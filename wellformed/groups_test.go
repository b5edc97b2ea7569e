package wellformed_test

import (
	"fmt"
	"math/rand"
	"slices"
	"strconv"
	"strings"
	"testing"

	"modcert/api"
	"modcert/environ"
	"modcert/wellformed"
)

// moduleOf returns the interface m/v1 with types from lines like N +- lower <: upper, and facades from lines like B = a::N.
func moduleOf(lines ...string) api.Interface {
	i := api.Interface{Path: "m/v1"}
	for _, line := range lines {
		head, upper, ok := strings.Cut(line, " <: ")
		if !ok {
			name, target, _ := strings.Cut(line, " = ")
			module, target, _ := strings.Cut(target, "::")
			i.Aliases = append(i.Aliases, alias(name, module+"/v1", target))
			continue
		}
		words := strings.SplitN(head, " ", 3)
		i.Types = append(i.Types, entry(words[0], strings.Trim(words[1], "."), words[2], upper))
	}
	return i
}

// P8.2: groups of types that use each other.
func TestGroups(t *testing.T) {
	for i, x := range []struct {
		want  string
		lines []string
	}{
		{"[]", nil}, {"[]", []string{"N . none <: int"}}, {"[[N]]", []string{"N . none <: {next: m::N}"}}, {"[[N]]", []string{"N . list[m::N] <: any"}}, {"[[N]]", []string{"N . none <: m::N"}}, {"[[N]]", []string{"N + none <: list[m::N[X0]]"}},
		{"[[A B]]", []string{"A . none <: list[m::B]", "B . list[m::A] <: any"}}, {"[[A B]]", []string{"B . none <: list[m::A]", "A . none <: list[m::B]"}}, {"[[A B C]]", []string{"C . none <: {a: m::A}", "A . none <: {a: m::B}", "B . {a: m::C} <: any"}},
		{"[]", []string{"A . none <: list[m::B]", "B . none <: list[m::C]", "C . none <: int"}}, {"[[B]]", []string{"A . none <: list[m::B]", "B . none <: list[m::B]", "C . none <: m::A"}}, {"[[A D] [B C]]", []string{"B . none <: list[m::C]", "A . none <: list[m::D]", "D . none <: fn(a: m::A) m::B", "C . none <: list[m::B]"}},
		{"[[A] [B]]", []string{"B . m::B <: m::A", "A . none <: <a: m::A>"}}, {"[[A B]]", []string{"A . none <: a::M[m::B]", "B . none <: m::Gone[list[m::A]]"}}, {"[]", []string{"A . none <: list[m::Gone]", "B . a::A <: a::B"}}, {"[]", []string{"N . none <: list[a::N]", "M . none <: list[N]"}},
		{"[[N]]", []string{"N . none <: list[m::B]", "B = m::N"}}, {"[[N]]", []string{"N . none <: list[m::D]", "B = m::N", "C = m::B", "D = m::C"}}, {"[[A B]]", []string{"A . none <: m::U", "B . none <: list[m::V]", "U = m::B", "V = m::A"}}, {"[]", []string{"N . none <: m::B", "B = a::N"}}, {"[]", []string{"N . none <: m::B", "B = m::B"}}, {"[]", []string{"N . none <: m::B", "B = m::C"}},
		{"[[N]]", []string{"N . none <: list[m::N]", "N . none <: int"}}, {"[]", []string{"N . none <: int", "N . none <: list[m::N]"}}, {"[]", []string{"A . none <: list[m::B]", "B . none <: int", "B . none <: list[m::A]"}}, {"[]", []string{"N . none <: list[m::M]", "M . none <: int", "M = m::N"}},
		{"[[A] [B] [C] [D]]", []string{"D . none <: m::D", "C . none <: {c: m::C, d: m::D}", "B . none <: {c: m::C, d: m::B}", "A . none <: {a: m::A, b: m::B}"}}, {"[[A B C]]", []string{"A . none <: fn(a: m::B) m::C", "B . none <: m::A", "C . none <: m::A"}},
	} {
		if got := fmt.Sprint(wellformed.Groups(moduleOf(x.lines...))); got != x.want {
			t.Errorf("example %d: the groups are %s, not %s", i, got, x.want)
		}
	}
	other := moduleOf("N . none <: {next: m::N}")
	other.Path = "a/v1"
	if got := wellformed.Groups(other); len(got) != 0 {
		t.Errorf("a type of another module with the same name makes the groups %v", got)
	}
	nameless := api.Interface{Path: "m/v1", Types: []api.TypeEntry{{Upper: reference("m/v1", "Gone")}}}
	if got := wellformed.Groups(nameless); len(got) != 0 {
		t.Errorf("a reference that leads nowhere makes the groups %v", got)
	}
	bounds := moduleOf("N + none <: int")
	bounds.Types[0].Params[0].Bound = reference("m/v1", "N", integer)
	bounds.Values = []api.ValueEntry{{Name: "v", Type: reference("m/v1", "N", integer)}}
	if got := wellformed.Groups(bounds); len(got) != 0 {
		t.Errorf("a bound of a parameter makes the groups %v", got)
	}
}

// P8.2: facades are followed as far as layer 7 does.
func TestGroupsOverFacades(t *testing.T) {
	for _, facades := range []int{1, api.MaxModules, api.MaxModules + 1} {
		i := moduleOf("N . none <: list[m::F0]")
		for k := range facades {
			i.Aliases = append(i.Aliases, alias("F"+strconv.Itoa(k), "m/v1", "F"+strconv.Itoa(k+1)))
		}
		i.Aliases[facades-1].Target = "N"
		if got := len(wellformed.Groups(i)) == 1; got != (facades <= api.MaxModules) {
			t.Errorf("whether a way of %d facades leads to the type is %v", facades, got)
		}
	}
}

// uses reports whether a type has a reference that leads to a type of an interface.
func uses(i api.Interface, t api.Type, name string) bool {
	if t.Kind == api.TypeRef {
		module, end, err := environ.Resolve(api.Env{i}, t.Module, t.Name)
		if err == api.OK && module == i.Path && end == name {
			return true
		}
	}
	return slices.ContainsFunc(t.Args, func(part api.Type) bool { return uses(i, part, name) }) ||
		slices.ContainsFunc(t.Fields, func(part api.Field) bool { return uses(i, part.Type, name) })
}

// groupsOf finds the groups by a table of the types that use each other.
func groupsOf(i api.Interface) [][]string {
	var names []string
	reach := map[[2]string]bool{}
	for _, e := range i.Types {
		if slices.Contains(names, e.Name) {
			continue
		}
		names = append(names, e.Name)
		for _, other := range i.Types {
			reach[[2]string{e.Name, other.Name}] = uses(i, e.Lower, other.Name) || uses(i, e.Upper, other.Name)
		}
	}
	slices.Sort(names)
	for _, b := range names {
		for _, a := range names {
			for _, c := range names {
				if reach[[2]string{a, b}] && reach[[2]string{b, c}] {
					reach[[2]string{a, c}] = true
				}
			}
		}
	}
	var groups [][]string
	for at, a := range names {
		var group []string
		earlier := false
		for k, b := range names {
			if reach[[2]string{a, b}] && reach[[2]string{b, a}] {
				group = append(group, b)
				earlier = earlier || k < at
			}
		}
		if len(group) > 0 && !earlier {
			groups = append(groups, group)
		}
	}
	return groups
}

// randomModule returns an interface whose types refer to its types and facades, and to others.
func randomModule(r *rand.Rand) api.Interface {
	name := func() string { return string(rune('A' + r.Intn(7))) }
	module := func() string { return []string{"m/v1", "m/v1", "m/v1", "a/v1", ""}[r.Intn(5)] }
	bound := func() api.Type {
		fields := []api.Field{{Name: "a", Type: reference(module(), name())}, {Name: "b", Type: reference("a/v1", "M", reference(module(), name()))}}
		return []api.Type{integer, {Kind: api.TypeRecord, Fields: fields}, {Kind: api.TypeFunc, Fields: fields[:r.Intn(2)], Args: []api.Type{integer}}}[r.Intn(3)]
	}
	i := api.Interface{Path: "m/v1"}
	for range r.Intn(8) {
		i.Types = append(i.Types, api.TypeEntry{Name: name(), Lower: bound(), Upper: bound()})
	}
	for range r.Intn(5) {
		i.Aliases = append(i.Aliases, alias(name(), module(), name()))
	}
	return i
}

// P8.2: groups of random interfaces.
func TestRandomGroups(t *testing.T) {
	r := rand.New(rand.NewSource(3))
	sizes := map[int]int{}
	for range 3000 {
		i := randomModule(r)
		got, want := wellformed.Groups(i), groupsOf(i)
		if !slices.EqualFunc(got, want, slices.Equal[[]string]) {
			t.Fatalf("the groups of %v are %v, not %v", i, got, want)
		}
		for _, group := range got {
			sizes[len(group)]++
		}
	}
	if sizes[1] < 100 || sizes[2] < 50 || sizes[3] < 20 {
		t.Errorf("the sizes of groups are %v", sizes)
	}
}

// P8.3: types that are not guarded, or not regular.
func TestLoops(t *testing.T) {
	for i, x := range []struct {
		want  api.Errno
		lines []string // the first one is that of the type that is checked
	}{
		{api.OK, []string{"N . none <: {next: m::N}"}}, {api.OK, []string{"N . list[m::N] <: <a: m::N>"}}, {api.OK, []string{"N . none <: fn(a: m::N) m::N"}}, {api.OK, []string{"N . none <: {next: a::One[m::N]}"}}, {api.OK, []string{"N . none <: a::One[list[m::N]]"}},
		{api.ErrLoop, []string{"N . none <: m::N"}}, {api.ErrLoop, []string{"N . m::N <: any"}}, {api.ErrLoop, []string{"N . none <: a::One[m::N]"}}, {api.ErrLoop, []string{"N . none <: a::One[a::One[m::N]]"}}, {api.ErrLoop, []string{"N . none <: a::Two[int, m::N]"}}, {api.ErrLoop, []string{"N . a::Two[list[m::N], m::N] <: any"}},
		{api.ErrLoop, []string{"N . none <: m::B", "B = m::N"}}, {api.ErrLoop, []string{"N . none <: m::C", "B = m::N", "C = m::B"}}, {api.OK, []string{"N . none <: {a: m::B}", "B = m::N"}}, {api.OK, []string{"N . none <: m::B", "B = a::Plain"}},
		{api.ErrLoop, []string{"A . none <: m::B", "B . none <: m::A"}}, {api.ErrLoop, []string{"A . none <: m::B", "B . none <: list[m::A]"}}, {api.OK, []string{"A . none <: list[m::B]", "B . none <: m::A"}}, {api.ErrLoop, []string{"A . none <: a::One[m::B]", "B . none <: list[m::A]"}}, {api.ErrLoop, []string{"A . none <: m::C", "B . none <: list[m::A]", "C = m::B"}},
		{api.OK, []string{"A . none <: m::B", "B . none <: list[m::B]"}}, {api.OK, []string{"A . none <: m::P[m::P[int]]", "P + none <: list[X0]"}}, {api.OK, []string{"A . none <: list[m::P[m::A]]", "P + none <: list[X0]"}}, {api.ErrLoop, []string{"A . none <: m::P[m::A]", "P + none <: list[X0]"}},
		{api.OK, []string{"N + none <: {a: X0, b: m::N[X0]}"}}, {api.OK, []string{"N == none <: {a: m::N[X0, X1]}"}}, {api.OK, []string{"N +- none <: <a: m::N[X0, X1]>"}}, {api.ErrLoop, []string{"N == none <: {a: m::N[X1, X0]}"}}, {api.ErrLoop, []string{"N == none <: {a: m::N[X0, X0]}"}}, {api.ErrLoop, []string{"N + none <: {a: m::N[int]}"}},
		{api.ErrLoop, []string{"N + none <: {a: m::N[list[X0]]}"}}, {api.ErrLoop, []string{"N + list[m::N[int]] <: any"}}, {api.ErrLoop, []string{"N + none <: {a: m::B[int]}", "B = m::N"}}, {api.OK, []string{"N + none <: {a: m::B[X0]}", "B = m::N"}}, {api.ErrLoop, []string{"N + none <: {a: m::N[X0], b: m::N[m::N[X0]]}"}}, {api.ErrLoop, []string{"N = none <: list[a::One[m::N[int]]]"}},
		{api.OK, []string{"A = none <: list[m::B[X0]]", "B = none <: list[m::A[X0]]"}}, {api.OK, []string{"A = none <: list[m::B[X0]]", "B = none <: list[m::A[int]]"}}, {api.ErrLoop, []string{"A = none <: list[m::B[int]]", "B = none <: list[m::A[X0]]"}}, {api.ErrLoop, []string{"A = none <: list[m::B[X0, X0]]", "B == none <: list[m::A[X0]]"}}, {api.ErrLoop, []string{"A . none <: list[m::B[int]]", "B = none <: list[m::A]"}},
		{api.ErrLoop, []string{"A . none <: list[m::C]", "C . none <: {a: m::A, b: m::B[int]}", "B = none <: list[m::A]"}}, {api.OK, []string{"A . none <: m::P[int]", "P + none <: list[m::P[X0]]"}},
	} {
		m := moduleOf(x.lines...)
		env := api.Env{{Path: "a/v1", Types: []api.TypeEntry{entry("One", "+", "none", "any"), entry("Plain", "", "none", "any"), entry("Two", "++", "none", "any")}}, m}
		checked := m.Types[0].Name
		if got := wellformed.Entry(env, "m/v1", checked); got != x.want {
			t.Errorf("example %d has the error %d, not %d", i, got, x.want)
		}
		// Interface finds the same, if no other type is to blame.
		slices.SortFunc(env[1].Types, func(a, b api.TypeEntry) int { return strings.Compare(a.Name, b.Name) })
		name, err := wellformed.Interface(env, "m/v1")
		if x.want != api.OK && err != api.ErrLoop || name == checked && err != x.want {
			t.Errorf("example %d: the interface has the error %d at %s", i, err, name)
		}
	}
}
