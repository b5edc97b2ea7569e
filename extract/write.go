package extract

import (
	"strings"

	"modcert/api"
	"modcert/codec"
)

// writer writes the bytes of an interface that has its form.
type writer struct{ strings.Builder }

func (w *writer) number(n int) {
	bytes, _ := codec.Uint(n) // nothing is negative in an interface that has its form
	w.WriteString(bytes)
}

func (w *writer) text(s string) {
	w.WriteString(codec.Text(s))
}

// write writes the number of the elements of a list, and each element by a function.
func write[T any](w *writer, list []T, element func(T)) {
	w.number(len(list))
	for _, e := range list {
		element(e)
	}
}

func (w *writer) whole(i api.Interface) {
	w.text(tag)
	w.text(i.Path)
	write(w, i.Types, w.typeEntry)
	write(w, i.Values, w.valueEntry)
	write(w, i.Aliases, w.alias)
	write(w, i.Deprecated, w.note)
}

func (w *writer) typeEntry(e api.TypeEntry) {
	w.text(e.Name)
	write(w, e.Params, func(p api.Param) { w.number(p.Variance) })
	w.typed(e.Lower)
	w.typed(e.Upper)
}

func (w *writer) valueEntry(e api.ValueEntry) {
	w.text(e.Name)
	write(w, e.Params, func(p api.Param) { w.typed(p.Bound) })
	w.typed(e.Type)
}

func (w *writer) alias(e api.AliasEntry) {
	w.text(e.Name)
	w.text(e.Module)
	w.text(e.Target)
}

func (w *writer) note(e api.Deprecation) {
	w.text(e.Name)
	w.text(e.Note)
}

func (w *writer) typed(t api.Type) {
	w.number(t.Kind)
	w.text(t.Module)
	w.text(t.Name)
	write(w, t.Args, w.typed)
	write(w, t.Fields, w.field)
}

func (w *writer) field(f api.Field) {
	w.text(f.Name)
	optional := 0
	if f.Optional {
		optional = 1
	}
	w.number(optional)
	w.typed(f.Type)
}
