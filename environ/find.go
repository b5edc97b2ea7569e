package environ

import (
	"slices"

	"modcert/api"
)

// condition says whether an interface is one of those that are looked for.
type condition func(i api.Interface) bool

func withPath(path string) condition {
	return func(i api.Interface) bool { return i.Path == path }
}

// indexOf returns the index of the first interface that satisfies a condition, or the number of interfaces if none does.
func indexOf(env api.Env, wanted condition) int {
	for at, i := range env {
		if wanted(i) {
			return at
		}
	}
	return len(env)
}

// find returns the first interface that satisfies a condition. It shares its memory with the environment.
func find(env api.Env, wanted condition) (api.Interface, bool) {
	at := indexOf(env, wanted)
	if at == len(env) {
		return api.Interface{}, false
	}
	return env[at], true
}

// Kinds of entries.
const (
	isMissing = iota
	isType
	isValue
	isAlias
)

// entry is an entry of the interface of a module: the field of its kind. It shares its memory with the interface.
type entry struct {
	kind         int
	module, name string
	typed        api.TypeEntry
	value        api.ValueEntry
	alias        api.AliasEntry
}

// entryOf returns the entry of an interface with a name.
func entryOf(i api.Interface, name string) entry {
	if at := slices.IndexFunc(i.Types, func(e api.TypeEntry) bool { return e.Name == name }); at >= 0 {
		return entry{kind: isType, module: i.Path, name: name, typed: i.Types[at]}
	}
	if at := slices.IndexFunc(i.Values, func(e api.ValueEntry) bool { return e.Name == name }); at >= 0 {
		return entry{kind: isValue, module: i.Path, name: name, value: i.Values[at]}
	}
	if at := slices.IndexFunc(i.Aliases, func(e api.AliasEntry) bool { return e.Name == name }); at >= 0 {
		return entry{kind: isAlias, module: i.Path, name: name, alias: i.Aliases[at]}
	}
	return entry{}
}

// end returns the entry to which a name of a module leads, behind all facades.
func end(env api.Env, module, name string) (entry, api.Errno) {
	for followed := 0; ; followed++ {
		i, ok := find(env, withPath(module))
		if !ok {
			return entry{}, api.ErrNotFound
		}
		e := entryOf(i, name)
		switch {
		case e.kind == isMissing:
			return entry{}, api.ErrNotFound
		case e.kind != isAlias:
			return e, api.OK
		case followed == api.MaxModules:
			return entry{}, api.ErrLoop
		}
		module, name = e.alias.Module, e.alias.Target
	}
}

// endOfKind does the same for a name that is expected to lead to a type, or to a value.
func endOfKind(env api.Env, module, name string, kind int) (entry, api.Errno) {
	e, err := end(env, module, name)
	if err == api.OK && e.kind != kind {
		return entry{}, api.ErrNotFound
	}
	return e, err
}
