package module

import (
	"modcert/api"
	"modcert/environ"
)

// report adds a diagnostic.
type report func(decl int, err api.Errno, name string)

// step is a step of the check of a module.
type step func(add report)

// firstFound returns the diagnostics of the first step that has any, and makes none behind it.
func firstFound(steps ...step) []api.Diagnostic {
	var found []api.Diagnostic
	add := func(decl int, err api.Errno, name string) {
		found = append(found, api.Diagnostic{Decl: decl, Error: err, Name: name})
	}
	for _, made := range steps {
		if made(add); len(found) > 0 {
			break
		}
	}
	return found
}

// checker is a module with the environments in which its steps look at it.
type checker struct {
	module   api.Module
	env      api.Env // without the module
	inside   api.Env
	declared api.Env
	outside  api.Env
}

func newChecker(env api.Env, m api.Module) checker {
	return checker{m, environ.Without(env, m.Path), Inside(env, m), with(env, declared(m)), with(env, m)}
}

// each returns the step that finds the error of each declaration.
func (c checker) each(find func(d api.Decl) api.Errno) step {
	return func(add report) {
		for i, d := range c.module.Decls {
			if err := find(d); err != api.OK {
				add(i, err, d.Name)
			}
		}
	}
}
