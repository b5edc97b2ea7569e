package subtype

import (
	"modcert/api"
	"modcert/environ"
	"modcert/wellformed"
)

// manyTypes is the number of types from which on a world asks whether its environment is well-formed: the types of others can unfold without an end.
const manyTypes = 1 << 10

// world knows the types that a decision meets, and their bounds.
type world struct {
	types
	env            api.Env
	context        api.Context
	entry          func(use api.Use) entry
	upper, lower   func(number int) bound
	asked, endless bool
}

// entry is the type to which a reference leads, if there is one: where it stands, its parameters, and its bounds.
type entry struct {
	exists       bool
	end          api.Use
	params       []api.Param
	lower, upper api.Type
}

// bound is the number of a bound, if there is one.
type bound struct {
	exists bool
	number int
}

func newWorld(env api.Env, context api.Context) *world {
	w := &world{types: types{numbers: map[string]int{}}, env: env, context: context}
	w.entry = remembered(w.findEntry)
	w.upper = remembered(func(number int) bound {
		if n := w.nodes[number]; n.kind == api.TypeVar {
			return w.ofVariable(n.name)
		}
		return w.ofReference(number, func(e entry) api.Type { return e.upper })
	})
	w.lower = remembered(func(number int) bound {
		return w.ofReference(number, func(e entry) api.Type { return e.lower })
	})
	return w
}

func (w *world) findEntry(use api.Use) entry {
	e, module, err := environ.Type(w.env, use.Module, use.Name)
	if err != api.OK {
		return entry{}
	}
	return entry{true, api.Use{Module: module, Name: e.Name}, e.Params, e.Lower, e.Upper}
}

// entryOf returns the type to which a node leads that is a reference with as many arguments as there are parameters.
func (w *world) entryOf(n node) entry {
	if n.kind != api.TypeRef {
		return entry{}
	}
	e := w.entry(api.Use{Module: n.module, Name: n.name})
	if len(n.args) != len(e.params) {
		return entry{}
	}
	return e
}

// ofVariable returns the bound of a variable of the context.
func (w *world) ofVariable(name string) bound {
	for _, param := range w.context {
		if param.Name == name {
			return bound{true, w.number(param.Bound)}
		}
	}
	return bound{}
}

// ofReference returns a bound of a reference, from the one that is declared.
func (w *world) ofReference(number int, declared func(entry) api.Type) bound {
	n := w.nodes[number]
	e := w.entryOf(n)
	if !e.exists || !w.ends() {
		return bound{}
	}
	args := map[string]int{}
	for i, param := range e.params {
		args[param.Name] = n.args[i]
	}
	return bound{true, w.substituted(w.number(declared(e)), args)}
}

// ends reports whether the types of the environment unfold to finitely many, as far as it matters: behind many types, only those of well-formed environments have bounds, so that every decision ends.
func (w *world) ends() bool {
	if len(w.nodes) >= manyTypes && !w.asked {
		_, err := wellformed.Env(w.env)
		w.asked, w.endless = true, err != api.OK
	}
	return !w.endless
}
