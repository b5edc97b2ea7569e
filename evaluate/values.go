package evaluate

import (
	"slices"

	"modcert/api"
	"modcert/syntax"
)

// value is a value during an evaluation. It does not change, and may be a part of many others.
type value struct {
	kind   int
	number int
	text   string
	names  []string
	items  []*value
	code   *api.Expr // of a function, with the local variables of the place where it was made
	locals *frame
}

// results has what has become of values and of the labels of functions. Parts stay shared, since so many copies might be needed that there is no room for them.
type results struct {
	values map[*value]api.Value
	labels map[*api.Expr][]api.Label
}

// resultOf returns the result for a value.
func resultOf(v *value) api.Value {
	return results{map[*value]api.Value{}, map[*api.Expr][]api.Label{}}.of(v)
}

func (r results) of(v *value) api.Value {
	if result, ok := r.values[v]; ok {
		return result
	}
	result := api.Value{Kind: v.kind, Number: v.number, Text: v.text, Names: slices.Clone(v.names)}
	for _, item := range v.items {
		result.Items = append(result.Items, r.of(item))
	}
	if v.code != nil {
		// Nobody can call a function of a result, so its labels say all about it.
		result.Code = []api.Expr{{Kind: api.ExprFunc, Labels: r.labelsOf(v.code)}}
	}
	r.values[v] = result
	return result
}

// labelsOf returns the labels of a function, which share no memory with the program.
func (r results) labelsOf(code *api.Expr) []api.Label {
	if labels, ok := r.labels[code]; ok {
		return labels
	}
	labels := slices.Clone(code.Labels)
	for i := range labels {
		labels[i].Type = syntax.Substitute(labels[i].Type, nil, nil)
	}
	r.labels[code] = labels
	return labels
}
