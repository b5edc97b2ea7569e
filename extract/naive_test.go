package extract_test

import (
	"slices"
	"strconv"
	"strings"

	"modcert/api"
	"modcert/lexer"
	"modcert/syntax"
)

// interfaceOf returns the interface of a module that has its form, as the chapter says it.
func interfaceOf(m api.Module) api.Interface {
	i := api.Interface{Path: m.Path}
	var names []string
	decls := map[string]api.Decl{}
	for _, d := range m.Decls {
		if d.Exported {
			names = append(names, d.Name)
			decls[d.Name] = d
		}
	}
	slices.Sort(names)
	for _, name := range names {
		d := decls[name]
		numbers := map[string]string{}
		for k, param := range d.Params {
			numbers[param.Name] = "#" + strconv.Itoa(k)
		}
		var params []api.Param
		for _, param := range d.Params {
			params = append(params, api.Param{Name: numbers[param.Name], Variance: param.Variance, Bound: renamed(param.Bound, numbers)})
		}
		switch d.Kind {
		case api.DeclType:
			i.Types = append(i.Types, api.TypeEntry{Name: name, Params: params, Lower: renamed(d.Lower, numbers), Upper: renamed(d.Upper, numbers)})
		case api.DeclValue:
			i.Values = append(i.Values, api.ValueEntry{Name: name, Params: params, Type: renamed(d.Type, numbers)})
		case api.DeclUse:
			i.Aliases = append(i.Aliases, api.AliasEntry{Name: name, Module: d.Module, Target: d.Target})
		}
		if d.Deprecated {
			i.Deprecated = append(i.Deprecated, api.Deprecation{Name: name, Note: d.Note})
		}
	}
	return i
}

// renamed returns a type whose variables have other names.
func renamed(t api.Type, names map[string]string) api.Type {
	t = duplicate(t)
	if name, ok := names[t.Name]; ok && t.Kind == api.TypeVar {
		t.Name = name
	}
	for i, part := range t.Args {
		t.Args[i] = renamed(part, names)
	}
	for i, part := range t.Fields {
		t.Fields[i].Type = renamed(part.Type, names)
	}
	return t
}

// natural returns the bytes of a number that is not negative.
func natural(n int) string {
	if n < 128 {
		return string([]byte{byte(n)})
	}
	return string([]byte{byte(n%128) + 128}) + natural(n/128)
}

func quoted(texts ...string) string {
	var b strings.Builder
	for _, s := range texts {
		b.WriteString(natural(len(s)) + s)
	}
	return b.String()
}

func typeBytes(t api.Type) string {
	s := natural(t.Kind) + quoted(t.Module, t.Name) + natural(len(t.Args))
	for _, part := range t.Args {
		s += typeBytes(part)
	}
	s += natural(len(t.Fields))
	for _, part := range t.Fields {
		s += quoted(part.Name)
		if part.Optional {
			s += natural(1)
		} else {
			s += natural(0)
		}
		s += typeBytes(part.Type)
	}
	return s
}

// bytesOf returns the bytes of an interface, with or without its form.
func bytesOf(i api.Interface) string {
	s := quoted("interface", i.Path) + natural(len(i.Types))
	for _, e := range i.Types {
		s += quoted(e.Name) + natural(len(e.Params))
		for _, param := range e.Params {
			s += natural(param.Variance)
		}
		s += typeBytes(e.Lower) + typeBytes(e.Upper)
	}
	s += natural(len(i.Values))
	for _, e := range i.Values {
		s += quoted(e.Name) + natural(len(e.Params))
		for _, param := range e.Params {
			s += typeBytes(param.Bound)
		}
		s += typeBytes(e.Type)
	}
	s += natural(len(i.Aliases))
	for _, e := range i.Aliases {
		s += quoted(e.Name, e.Module, e.Target)
	}
	s += natural(len(i.Deprecated))
	for _, e := range i.Deprecated {
		s += quoted(e.Name, e.Note)
	}
	return s
}

// isNatural reports whether all numbers of an interface can be written.
func isNatural(i api.Interface) bool {
	var ofType func(t api.Type) bool
	ofType = func(t api.Type) bool {
		ok := t.Kind >= 0
		for _, part := range t.Args {
			ok = ok && ofType(part)
		}
		for _, part := range t.Fields {
			ok = ok && ofType(part.Type)
		}
		return ok
	}
	ok := true
	for _, e := range i.Types {
		ok = ok && ofType(e.Lower) && ofType(e.Upper)
		for _, param := range e.Params {
			ok = ok && param.Variance >= 0
		}
	}
	for _, e := range i.Values {
		ok = ok && ofType(e.Type)
		for _, param := range e.Params {
			ok = ok && ofType(param.Bound)
		}
	}
	return ok
}

// hasForm reports whether an interface has its form, as the chapter says it.
func hasForm(i api.Interface) bool {
	ok := lexer.IsPath(i.Path) && len(i.Types)+len(i.Values)+len(i.Aliases) <= 64
	var types, values, aliases, deprecated []string
	for _, e := range i.Types {
		types = append(types, e.Name)
		ok = ok && lexer.IsType(e.Name) && len(e.Params) <= 8 && typeHasForm(e.Lower, len(e.Params)) && typeHasForm(e.Upper, len(e.Params))
		for k, param := range e.Params {
			ok = ok && param.Name == "#"+strconv.Itoa(k) && param.Variance >= 0 && param.Variance <= 2 && same(param.Bound, api.Type{})
		}
	}
	for _, e := range i.Values {
		values = append(values, e.Name)
		ok = ok && lexer.IsName(e.Name) && len(e.Params) <= 8 && typeHasForm(e.Type, len(e.Params))
		for k, param := range e.Params {
			ok = ok && param.Name == "#"+strconv.Itoa(k) && param.Variance == 0 && typeHasForm(param.Bound, k)
		}
	}
	for _, e := range i.Aliases {
		aliases = append(aliases, e.Name)
		ok = ok && lexer.IsPath(e.Module) && (lexer.IsName(e.Name) && lexer.IsName(e.Target) || lexer.IsType(e.Name) && lexer.IsType(e.Target))
	}
	for _, e := range i.Deprecated {
		deprecated = append(deprecated, e.Name)
		ok = ok && (lexer.IsName(e.Name) || lexer.IsType(e.Name)) && len(e.Note) <= 65536
	}
	for _, names := range [][]string{types, values, aliases, deprecated} {
		sorted := slices.Compact(slices.Sorted(slices.Values(names)))
		ok = ok && slices.Equal(sorted, names)
	}
	return ok
}

func typeHasForm(t api.Type, params int) bool {
	if syntax.CheckType(t) != api.OK {
		return false
	}
	for _, name := range syntax.Free(t) {
		index, err := strconv.Atoi(strings.TrimPrefix(name, "#"))
		if err != nil || name[0] != '#' || index >= params {
			return false
		}
	}
	for _, use := range syntax.Mentions(t) {
		if !lexer.IsPath(use.Module) {
			return false
		}
	}
	return true
}
