package sample

import (
	"cmp"
	"slices"
	"strconv"

	"modcert/api"
)

// known is a type, or a facade of one, to which references can lead.
type known struct {
	use    api.Use
	params []api.Param
}

// maker makes an environment, and knows what the types and facades that follow can refer to.
type maker struct {
	choose Choice
	types  []known
	values []api.Use
}

// Env returns an environment that is well-formed (layer 8), with modules that mention each other, recursive types, facades and deprecated names. The lower bound of each type is none or its upper bound, or the upper one is any.
func (choose Choice) Env() api.Env {
	m := maker{choose: choose}
	var env api.Env
	// Modules mention those that were made before them, so these stand in any order.
	for _, path := range choose.shuffled("a/v1", "b/v1", "b/v2", "c/d/v0") {
		env = append(env, m.module(path))
	}
	slices.SortFunc(env, func(a, b api.Interface) int { return cmp.Compare(a.Path, b.Path) })
	return env
}

// shuffled returns some of the elements of a list, in any order.
func (choose Choice) shuffled(list ...string) []string {
	for i := range list {
		j := i + choose(len(list)-i)
		list[i], list[j] = list[j], list[i]
	}
	return list[:1+choose(len(list))]
}

func (m *maker) module(path string) api.Interface {
	i := api.Interface{Path: path}
	for range m.choose(4) {
		m.addTypes(&i)
	}
	for k := range m.choose(4) {
		i.Values = append(i.Values, m.value("v"+strconv.Itoa(k)))
		m.values = append(m.values, api.Use{Module: path, Name: "v" + strconv.Itoa(k)})
	}
	for range m.choose(4) {
		m.addFacade(&i)
	}
	slices.SortFunc(i.Aliases, func(a, b api.AliasEntry) int { return cmp.Compare(a.Name, b.Name) })
	i.Deprecated = m.notes(i)
	return i
}

// addTypes adds types that can use each other, and sometimes a facade of one of them, which can stand for it.
func (m *maker) addTypes(i *api.Interface) {
	params := m.params()
	count := 1 + m.choose(2)
	var group []known
	for k := range count {
		group = append(group, known{api.Use{Module: i.Path, Name: "T" + strconv.Itoa(len(i.Types)+k)}, params})
	}
	if m.choose.yes() {
		group = append(group, known{m.facade(i, "U", group[0].use), params})
	}
	for k := range count {
		t := m.typed(place{variables: params, sign: 1, group: group}, 3)
		e := api.TypeEntry{Name: group[k].use.Name, Params: slices.Clone(params), Lower: t, Upper: t}
		switch m.choose(3) {
		case 0:
			e.Lower = api.Type{Kind: api.TypeNone}
		case 1:
			e.Upper = api.Type{Kind: api.TypeAny}
		}
		i.Types = append(i.Types, e)
	}
	m.types = append(m.types, group...)
}

// facade adds a facade of a name to an interface, and returns where it stands.
func (m *maker) facade(i *api.Interface, prefix string, target api.Use) api.Use {
	name := prefix + strconv.Itoa(len(i.Aliases))
	i.Aliases = append(i.Aliases, api.AliasEntry{Name: name, Module: target.Module, Target: target.Name})
	return api.Use{Module: i.Path, Name: name}
}

// addFacade adds a facade of a type or of a value that exists, if there is one.
func (m *maker) addFacade(i *api.Interface) {
	if len(m.types) > 0 && m.choose.yes() {
		target := m.types[m.choose(len(m.types))]
		m.types = append(m.types, known{m.facade(i, "U", target.use), target.params})
	}
	if len(m.values) > 0 && m.choose.yes() {
		m.values = append(m.values, m.facade(i, "w", m.values[m.choose(len(m.values))]))
	}
}

// notes returns notes for some of the names of an interface.
func (m *maker) notes(i api.Interface) []api.Deprecation {
	var list []api.Deprecation
	add := func(name string) {
		if m.choose(4) == 0 {
			list = append(list, api.Deprecation{Name: name, Note: m.choose.text()})
		}
	}
	for _, e := range i.Types {
		add(e.Name)
	}
	for _, e := range i.Aliases {
		add(e.Name)
	}
	for _, e := range i.Values {
		add(e.Name)
	}
	slices.SortFunc(list, func(a, b api.Deprecation) int { return cmp.Compare(a.Name, b.Name) })
	return list
}

func (m *maker) params() []api.Param {
	var list []api.Param
	for k := range m.choose(4) {
		list = append(list, api.Param{Name: "#" + strconv.Itoa(k), Variance: m.choose(3)})
	}
	return list
}

// value returns a value. Its variables can stand in all positions, like those that are invariant.
func (m *maker) value(name string) api.ValueEntry {
	e := api.ValueEntry{Name: name}
	var variables []api.Param
	for k := range m.choose(3) {
		param := api.Param{Name: "#" + strconv.Itoa(k), Bound: m.typed(place{variables: variables, sign: 1}, m.choose(3))}
		e.Params = append(e.Params, param)
		variables = append(variables, api.Param{Name: param.Name, Variance: api.Invariant})
	}
	e.Type = m.typed(place{variables: variables, sign: 1}, 3)
	return e
}

// place says where a type stands: the variables that it may have, with their variances; the sign of its position (0: both kinds); and the types of its own group, to which it may refer if it is guarded.
type place struct {
	variables []api.Param
	sign      int
	group     []known
	guarded   bool
}

// behind returns the place of a part in a position with a sign.
func (p place) behind(sign int, guarded bool) place {
	p.sign *= sign
	p.guarded = p.guarded || guarded
	return p
}

// permits reports whether a parameter can stand at a place.
func (p place) permits(param api.Param) bool {
	return param.Variance == api.Invariant || p.sign != 0 && p.sign == signOf(param)
}

// signOf returns the sign by which the positions in an argument are multiplied.
func signOf(param api.Param) int {
	return [...]int{api.Covariant: 1, api.Contravariant: -1, api.Invariant: 0}[param.Variance]
}

// typed returns a type for a place, with a depth of at most one more than levels, but for the arguments of its leaves.
func (m *maker) typed(p place, levels int) api.Type {
	if levels == 0 || m.choose(4) == 0 {
		return m.leaf(p)
	}
	inside := p.behind(1, true)
	switch m.choose(6) {
	case 0:
		return api.Type{Kind: api.TypeList, Args: []api.Type{m.typed(inside, levels-1)}}
	case 1:
		return api.Type{Kind: api.TypeRecord, Fields: m.fields(inside, levels-1)}
	case 2:
		return api.Type{Kind: api.TypeVariant, Fields: m.fields(inside, levels-1)}
	case 3:
		params := m.fields(inside.behind(-1, true), levels-1)
		for i := range params {
			params[i].Optional = m.choose.yes()
		}
		return api.Type{Kind: api.TypeFunc, Fields: params, Args: []api.Type{m.typed(inside, levels-1)}}
	}
	if len(m.types) == 0 {
		return m.leaf(p)
	}
	target := m.types[m.choose(len(m.types))]
	t := api.Type{Kind: api.TypeRef, Module: target.use.Module, Name: target.use.Name}
	for _, param := range target.params {
		t.Args = append(t.Args, m.typed(p.behind(signOf(param), false), levels-1))
	}
	return t
}

func (m *maker) fields(p place, levels int) []api.Field {
	var list []api.Field
	for _, name := range m.choose.names() {
		list = append(list, api.Field{Name: name, Type: m.typed(p, levels)})
	}
	return list
}

// leaf returns a variable, a reference to a type of the own group, or a basic type.
func (m *maker) leaf(p place) api.Type {
	var list []api.Type
	for _, param := range p.variables {
		if p.permits(param) {
			list = append(list, api.Type{Kind: api.TypeVar, Name: param.Name})
		}
	}
	for _, other := range p.group {
		if p.guarded && p.permitsAll(other.params) {
			list = append(list, recursive(other))
		}
	}
	if len(list) > 0 && m.choose(3) > 0 {
		return list[m.choose(len(list))]
	}
	return api.Type{Kind: [...]int{api.TypeAny, api.TypeNone, api.TypeInt, api.TypeBool, api.TypeText}[m.choose(5)]}
}

// permitsAll reports whether a type with some parameters can stand at a place with these as arguments.
func (p place) permitsAll(params []api.Param) bool {
	for _, param := range params {
		if !p.behind(signOf(param), false).permits(param) {
			return false
		}
	}
	return true
}

// recursive returns the reference to a type of a group, whose arguments are its parameters.
func recursive(own known) api.Type {
	t := api.Type{Kind: api.TypeRef, Module: own.use.Module, Name: own.use.Name}
	for _, param := range own.params {
		t.Args = append(t.Args, api.Type{Kind: api.TypeVar, Name: param.Name})
	}
	return t
}
