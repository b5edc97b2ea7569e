package wellformed

import (
	"iter"
	"slices"

	"modcert/api"
	"modcert/environ"
	"modcert/syntax"
)

// entry is what environ.Type finds: the parameters of a type, or an error.
type entry struct {
	params []api.Param
	err    api.Errno
}

// entries finds the types to which references lead.
type entries func(use api.Use) entry

// entriesOf returns the entries of an environment. They are remembered, because environ.Type copies what it finds.
func entriesOf(env api.Env) entries {
	return remembered(func(use api.Use) entry {
		e, _, err := environ.Type(env, use.Module, use.Name)
		return entry{e.Params, err}
	})
}

func useOf(t api.Type) api.Use {
	return api.Use{Module: t.Module, Name: t.Name}
}

// nodes yields the nodes of a type in preorder.
func nodes(t api.Type) iter.Seq[api.Type] {
	return func(yield func(api.Type) bool) { visit(t, yield) }
}

// visit yields the nodes of a type, and reports whether to go on.
func visit(t api.Type, yield func(api.Type) bool) bool {
	if !yield(t) {
		return false
	}
	for _, argument := range t.Args {
		if !visit(argument, yield) {
			return false
		}
	}
	for _, field := range t.Fields {
		if !visit(field.Type, yield) {
			return false
		}
	}
	return true
}

// typeError returns the error of a type for some variables.
func (find entries) typeError(variables []string, t api.Type) api.Errno {
	if err := syntax.CheckType(t); err != api.OK {
		return err
	}
	for node := range nodes(t) {
		if err := find.nodeError(variables, node); err != api.OK {
			return err
		}
	}
	return api.OK
}

func (find entries) nodeError(variables []string, t api.Type) api.Errno {
	switch t.Kind {
	case api.TypeVar:
		if !slices.Contains(variables, t.Name) {
			return api.ErrName
		}
	case api.TypeRef:
		e := find(useOf(t))
		if e.err != api.OK {
			return e.err
		}
		if len(e.params) != len(t.Args) {
			return api.ErrArity
		}
	}
	return api.OK
}

// Signs of positions, by which those of the parts of a type are multiplied: a part can stand in the same positions, in the opposite ones, or in both kinds.
const (
	opposite = -1
	both     = 0
	same     = 1
)

// occurrence says in which positions a variable occurs.
type occurrence struct{ positive, negative bool }

// positions returns the occurrences of all variables of a type.
func (find entries) positions(t api.Type) map[string]occurrence {
	found := map[string]occurrence{}
	var walk func(t api.Type, sign int)
	walk = func(t api.Type, sign int) {
		if t.Kind == api.TypeVar {
			before := found[t.Name]
			found[t.Name] = occurrence{before.positive || sign >= both, before.negative || sign <= both}
		}
		for i, argument := range t.Args {
			walk(argument, sign*find.argumentSign(t, i))
		}
		for _, field := range t.Fields {
			walk(field.Type, sign*fieldSign(t))
		}
	}
	walk(t, same)
	return found
}

// argumentSign returns the sign of an element of the Args of a type.
func (find entries) argumentSign(t api.Type, i int) int {
	if t.Kind != api.TypeRef {
		return same
	}
	e := find(useOf(t))
	if e.err != api.OK || i >= len(e.params) {
		return both
	}
	return varianceSign(e.params[i].Variance)
}

func varianceSign(variance int) int {
	switch variance {
	case api.Covariant:
		return same
	case api.Contravariant:
		return opposite
	}
	return both
}

// fieldSign returns the sign of the types of the Fields of a type.
func fieldSign(t api.Type) int {
	if t.Kind == api.TypeFunc {
		return opposite
	}
	return same
}

// respects reports whether a type respects parameters. Of those with one name, the first one counts.
func (find entries) respects(params []api.Param, t api.Type) bool {
	found := find.positions(t)
	checked := map[string]bool{}
	for _, param := range params {
		at := found[param.Name]
		wrong := param.Variance == api.Covariant && at.negative || param.Variance == api.Contravariant && at.positive
		if wrong && !checked[param.Name] {
			return false
		}
		checked[param.Name] = true
	}
	return true
}
