package extract

import (
	"math"

	"modcert/api"
	"modcert/codec"
)

// reader reads the bytes of an interface. Behind an error everything that it reads is zero.
type reader struct {
	*codec.Reader
	depth int // the number of types that are being read
}

// read reads the number of the elements of a list, and each element by a function.
func read[T any](r *reader, most int, element func() T) []T {
	var list []T
	for range r.Count(most) {
		list = append(list, element())
		if r.Error() != api.OK {
			return nil
		}
	}
	return list
}

func (r *reader) whole() api.Interface {
	if r.Text() != tag {
		r.Fail(api.ErrCorrupt)
	}
	var i api.Interface
	i.Path = r.Text()
	i.Types = read(r, api.MaxDecls, r.typeEntry)
	i.Values = read(r, api.MaxDecls, r.valueEntry)
	i.Aliases = read(r, api.MaxDecls, r.alias)
	i.Deprecated = read(r, math.MaxInt, r.note)
	return i
}

func (r *reader) typeEntry() api.TypeEntry {
	var e api.TypeEntry
	e.Name = r.Text()
	e.Params = r.params(func() api.Param { return api.Param{Variance: r.Uint()} })
	e.Lower = r.typed()
	e.Upper = r.typed()
	return e
}

func (r *reader) valueEntry() api.ValueEntry {
	var e api.ValueEntry
	e.Name = r.Text()
	e.Params = r.params(func() api.Param { return api.Param{Bound: r.typed()} })
	e.Type = r.typed()
	return e
}

// params reads parameters, whose names are those of their indexes.
func (r *reader) params(param func() api.Param) []api.Param {
	params := read(r, api.MaxParams, param)
	for k := range params {
		params[k].Name = variable(k)
	}
	return params
}

func (r *reader) alias() api.AliasEntry {
	var e api.AliasEntry
	e.Name = r.Text()
	e.Module = r.Text()
	e.Target = r.Text()
	return e
}

func (r *reader) note() api.Deprecation {
	var e api.Deprecation
	e.Name = r.Text()
	e.Note = r.Text()
	return e
}

func (r *reader) typed() api.Type {
	r.depth++
	defer func() { r.depth-- }()
	if r.depth > api.MaxDepth {
		// Such a type does not have its form, and there may be more levels than a stack has.
		r.Fail(api.ErrCorrupt)
	}
	var t api.Type
	t.Kind = r.Uint()
	t.Module = r.Text()
	t.Name = r.Text()
	t.Args = read(r, api.MaxParams, r.typed)
	t.Fields = read(r, api.MaxFields, r.field)
	return t
}

func (r *reader) field() api.Field {
	var f api.Field
	f.Name = r.Text()
	f.Optional = r.Count(1) == 1
	f.Type = r.typed()
	return f
}
