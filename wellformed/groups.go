package wellformed

import (
	"maps"
	"slices"

	"modcert/api"
	"modcert/environ"
	"modcert/syntax"
)

// target is the type of an interface to which a reference leads, if it leads to one.
type target struct {
	name string
	ok   bool
}

// family knows how the types of an interface use each other.
type family struct {
	types map[string]api.TypeEntry // the first one with each name
	leads func(use api.Use) target
	reach func(name string) map[string]bool // the types that a type uses, directly or through others
}

func familyOf(i api.Interface) family {
	types := map[string]api.TypeEntry{}
	for _, e := range slices.Backward(i.Types) {
		types[e.Name] = e
	}
	alone := api.Env{i}
	leads := remembered(func(use api.Use) target {
		_, name, err := environ.Resolve(alone, use.Module, use.Name)
		_, ok := types[name]
		return target{name, ok && err == api.OK}
	})
	uses := remembered(func(name string) []string { return usesOf(types[name], leads) })
	reach := remembered(func(name string) map[string]bool { return reached(uses, name) })
	return family{types, leads, reach}
}

// usesOf returns the names of the types that the bounds of a type use.
func usesOf(e api.TypeEntry, leads func(use api.Use) target) []string {
	var names []string
	for _, use := range slices.Concat(syntax.Mentions(e.Lower), syntax.Mentions(e.Upper)) {
		if to := leads(use); to.ok {
			names = append(names, to.name)
		}
	}
	return names
}

// group returns the names of the group of a type in increasing order, or nothing if it has none.
func (f family) group(name string) []string {
	var members []string
	for other := range f.reach(name) {
		if f.reach(other)[name] {
			members = append(members, other)
		}
	}
	slices.Sort(members)
	return members
}

func (f family) groups() [][]string {
	var list [][]string
	grouped := map[string]bool{}
	for _, name := range slices.Sorted(maps.Keys(f.types)) {
		if grouped[name] {
			continue
		}
		members := f.group(name)
		for _, member := range members {
			grouped[member] = true
		}
		if len(members) > 0 {
			list = append(list, members)
		}
	}
	return list
}

// leadsTo reports whether a node of a type is a reference that leads to one of some types.
func (f family) leadsTo(names []string, t api.Type) bool {
	if t.Kind != api.TypeRef {
		return false
	}
	to := f.leads(useOf(t))
	return to.ok && slices.Contains(names, to.name)
}

// guarded reports whether no reference to one of some types stands outside of all lists, records, variants and functions.
func (f family) guarded(names []string, t api.Type) bool {
	if t.Kind != api.TypeRef {
		return true
	}
	unguarded := func(argument api.Type) bool { return !f.guarded(names, argument) }
	return !f.leadsTo(names, t) && !slices.ContainsFunc(t.Args, unguarded)
}

// regular reports whether the references of a type to those of its group pass on its own parameters, of which all of the group have as many.
func (f family) regular(group []string, e api.TypeEntry) bool {
	for _, name := range group {
		if len(f.types[name].Params) != len(e.Params) {
			return false
		}
	}
	var variables []api.Type
	for _, param := range e.Params {
		variables = append(variables, api.Type{Kind: api.TypeVar, Name: param.Name})
	}
	for _, bound := range []api.Type{e.Lower, e.Upper} {
		for node := range nodes(bound) {
			if f.leadsTo(group, node) && !slices.EqualFunc(node.Args, variables, syntax.EqualTypes) {
				return false
			}
		}
	}
	return true
}

// loops reports whether a type is not guarded, or not regular.
func (f family) loops(e api.TypeEntry) bool {
	group := f.group(e.Name)
	return !f.guarded(group, e.Lower) || !f.guarded(group, e.Upper) || !f.regular(group, e)
}
