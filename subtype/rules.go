package subtype

import (
	"slices"

	"modcert/api"
)

// judgment says of two types, by their numbers, that s is a subtype of t.
type judgment struct{ s, t int }

// rule returns the judgments on which a judgment depends, and whether the rule applies to it.
type rule func(j judgment) ([]judgment, bool)

// rules returns the rules in their order.
func rules(w *world) [5]rule {
	return [...]rule{w.axiom, w.parts, w.arguments,
		func(j judgment) ([]judgment, bool) {
			upper := w.upper(j.s)
			return []judgment{{upper.number, j.t}}, upper.exists
		},
		func(j judgment) ([]judgment, bool) {
			lower := w.lower(j.t)
			return []judgment{{j.s, lower.number}}, lower.exists
		},
	}
}

func (w *world) axiom(j judgment) ([]judgment, bool) {
	s, t := w.nodes[j.s], w.nodes[j.t]
	if s.kind == api.TypeNone || t.kind == api.TypeAny {
		return nil, true
	}
	switch s.kind {
	case api.TypeInt, api.TypeBool, api.TypeText:
		return nil, s.kind == t.kind
	case api.TypeVar:
		return nil, t.kind == api.TypeVar && s.name == t.name
	}
	return nil, false
}

func (w *world) parts(j judgment) ([]judgment, bool) {
	s, t := w.nodes[j.s], w.nodes[j.t]
	if s.kind != t.kind {
		return nil, false
	}
	switch s.kind {
	case api.TypeList:
		return elements(s.args, t.args)
	case api.TypeRecord:
		return matched(t.fields, s.fields, func(ofT, ofS field) judgment { return judgment{ofS.number, ofT.number} })
	case api.TypeVariant:
		return matched(s.fields, t.fields, func(ofS, ofT field) judgment { return judgment{ofS.number, ofT.number} })
	case api.TypeFunc:
		return functions(s, t)
	}
	return nil, false
}

// elements compares the elements of lists, or the results of functions.
func elements(s, t []int) ([]judgment, bool) {
	if len(s) != 1 || len(t) != 1 {
		return nil, false
	}
	return []judgment{{s[0], t[0]}}, true
}

// matched compares each of some fields with the one of others that has its name. All of them must have one.
func matched(fields, others []field, compare func(f, other field) judgment) ([]judgment, bool) {
	var list []judgment
	for _, f := range fields {
		other, ok := named(others, f.name)
		if !ok {
			return nil, false
		}
		list = append(list, compare(f, other))
	}
	return list, true
}

func named(fields []field, name string) (field, bool) {
	at := slices.IndexFunc(fields, func(f field) bool { return f.name == name })
	if at < 0 {
		return field{}, false
	}
	return fields[at], true
}

func functions(s, t node) ([]judgment, bool) {
	for _, ofS := range s.fields {
		ofT, given := named(t.fields, ofS.name)
		if !ofS.optional && (!given || ofT.optional) {
			return nil, false
		}
	}
	params, ok := matched(t.fields, s.fields, func(ofT, ofS field) judgment { return judgment{ofT.number, ofS.number} })
	result, single := elements(s.args, t.args)
	return append(params, result...), ok && single
}

// arguments compares the arguments of references that lead to one type.
func (w *world) arguments(j judgment) ([]judgment, bool) {
	s, t := w.nodes[j.s], w.nodes[j.t]
	e, other := w.entryOf(s), w.entryOf(t)
	if !e.exists || !other.exists || e.end != other.end {
		return nil, false
	}
	var list []judgment
	for i, param := range e.params {
		if param.Variance != api.Contravariant {
			list = append(list, judgment{s.args[i], t.args[i]})
		}
		if param.Variance != api.Covariant {
			list = append(list, judgment{t.args[i], s.args[i]})
		}
	}
	return list, true
}
