package module

import (
	"cmp"
	"slices"

	"modcert/api"
	"modcert/environ"
	"modcert/syntax"
	"modcert/wellformed"
)

// signature finds the first error of what a declaration says to others.
func (c checker) signature(d api.Decl) api.Errno {
	entry := func(env api.Env) api.Errno {
		return wellformed.Entry(env, c.module.Path, d.Name)
	}
	switch d.Kind {
	case api.DeclUse:
		return c.target(d)
	case api.DeclType:
		return cmp.Or(entry(c.inside), entry(c.declared), c.privacy(d, d.Lower, d.Upper))
	}
	return cmp.Or(entry(c.inside), c.privacy(d, stated(d)...))
}

// target finds the error of that for which a facade stands.
func (c checker) target(d api.Decl) api.Errno {
	var err api.Errno
	if syntax.Variable(d.Target) { // of the names of a facade, those of types alone
		_, _, err = environ.Type(c.env, d.Module, d.Target)
	} else {
		_, _, err = environ.Value(c.env, d.Module, d.Target)
	}
	return err
}

// privacy finds out whether a type that nobody else can see has bounds for others, or whether others can see a private type in some types of a declaration.
func (c checker) privacy(d api.Decl, types ...api.Type) api.Errno {
	hidden := !d.Exported && d.Kind == api.DeclType && !transparent(d)
	seen := d.Exported && slices.ContainsFunc(types, c.mentionsPrivate)
	if hidden || seen {
		return api.ErrPrivate
	}
	return api.OK
}

func transparent(d api.Decl) bool {
	return syntax.EqualTypes(d.Lower, d.Type) && syntax.EqualTypes(d.Upper, d.Type)
}

// mentionsPrivate reports whether a type has a reference to a private declaration of the module.
func (c checker) mentionsPrivate(t api.Type) bool {
	private := map[string]bool{}
	for _, d := range c.module.Decls {
		private[d.Name] = !d.Exported
	}
	return slices.ContainsFunc(syntax.Mentions(t), func(use api.Use) bool {
		return use.Module == c.module.Path && private[use.Name]
	})
}
