package printer

import "modcert/api"

func (w *writer) writeType(t api.Type) {
	basic := [...]string{api.TypeAny: "any", api.TypeNone: "none", api.TypeInt: "int", api.TypeBool: "bool", api.TypeText: "text"}
	switch t.Kind {
	case api.TypeList:
		w.WriteString("list")
		w.arguments(t.Args)
	case api.TypeRecord:
		w.fields("{", ", ", "}", t.Fields)
	case api.TypeVariant:
		w.fields("<", " | ", ">", t.Fields)
	case api.TypeFunc:
		w.fields("fn(", ", ", ") ", t.Fields)
		w.writeType(t.Args[0])
	case api.TypeRef:
		w.qualified(t.Module, t.Name)
		w.arguments(t.Args)
	default:
		w.WriteString(basic[t.Kind])
	}
}

// arguments writes types in brackets, if there are any.
func (w *writer) arguments(types []api.Type) {
	if len(types) == 0 {
		return
	}
	w.WriteString("[")
	w.list(", ", len(types), func(i int) { w.writeType(types[i]) })
	w.WriteString("]")
}

func (w *writer) fields(begin, separator, end string, fields []api.Field) {
	w.WriteString(begin)
	w.list(separator, len(fields), func(i int) {
		w.WriteString(fields[i].Name)
		if fields[i].Optional {
			w.WriteString("?")
		}
		w.WriteString(": ")
		w.writeType(fields[i].Type)
	})
	w.WriteString(end)
}
