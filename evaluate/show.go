package evaluate

import (
	"strconv"
	"strings"

	"modcert/api"
	"modcert/lexer"
)

// writer writes the text of a value. Nothing matters any more when it is full, so it ends quickly then.
type writer struct{ strings.Builder }

func (w *writer) full() bool {
	return w.Len() >= api.MaxText
}

// text returns what was written, without what is cut off.
func (w *writer) text() string {
	return w.String()[:min(w.Len(), api.MaxText)]
}

func (w *writer) value(v api.Value) {
	switch v.Kind {
	case api.ValueInt:
		w.WriteString(strconv.Itoa(v.Number))
	case api.ValueText:
		w.WriteString(lexer.Quote(v.Text))
	case api.ValueBool:
		w.WriteString(strconv.FormatBool(v.Number == 1))
	case api.ValueList:
		w.sequence("[", len(v.Items), "]", func(i int) { w.value(v.Items[i]) })
	case api.ValueRecord:
		w.pairs("{", v, "}")
	case api.ValueVariant:
		w.pairs("<", v, ">")
	case api.ValueFunc:
		params := paramsOf(v)
		w.sequence("fn(", len(params), ")", func(i int) { w.WriteString(params[i].Name) })
	}
}

// paramsOf returns the parameters of a function.
func paramsOf(v api.Value) []api.Label {
	if len(v.Code) == 0 {
		return nil
	}
	return v.Code[0].Labels
}

// pairs writes the names and the items of a value.
func (w *writer) pairs(open string, v api.Value, end string) {
	w.sequence(open, min(len(v.Names), len(v.Items)), end, func(i int) {
		w.WriteString(v.Names[i])
		w.WriteString(": ")
		w.value(v.Items[i])
	})
}

// sequence writes parts, with commas in between.
func (w *writer) sequence(open string, count int, end string, part func(i int)) {
	w.WriteString(open)
	for i := 0; i < count && !w.full(); i++ {
		if i > 0 {
			w.WriteString(", ")
		}
		part(i)
	}
	w.WriteString(end)
}
