package module

import (
	"slices"

	"modcert/api"
	"modcert/environ"
	"modcert/extract"
)

// with returns an environment with the interface of a module, or without its path if it has no interface.
func with(env api.Env, m api.Module) api.Env {
	i, err := extract.Interface(m)
	if err != api.OK {
		return environ.Without(env, m.Path)
	}
	return environ.Add(env, i)
}

// declared returns a module that exports all its declarations, and deprecates none.
func declared(m api.Module) api.Module {
	m.Decls = slices.Clone(m.Decls)
	for i := range m.Decls {
		d := &m.Decls[i]
		d.Exported, d.Deprecated, d.Note = true, false, ""
	}
	return m
}

// revealed returns a module that exports all its declarations, and the definitions of its types.
func revealed(m api.Module) api.Module {
	m = declared(m)
	for i := range m.Decls {
		if d := &m.Decls[i]; d.Kind == api.DeclType {
			d.Lower, d.Upper = d.Type, d.Type
		}
	}
	return m
}
