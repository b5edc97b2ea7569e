package parser_test

import (
	"math/rand"
	"reflect"
	"strconv"
	"strings"
	"testing"

	"modcert/api"
	"modcert/lexer"
	"modcert/parser"
	"modcert/sample"
	"modcert/syntax"
)

var (
	anything = api.Type{Kind: api.TypeAny}
	nothing  = api.Type{Kind: api.TypeNone}
	integer  = api.Type{Kind: api.TypeInt}
	boolean  = api.Type{Kind: api.TypeBool}
	text     = api.Type{Kind: api.TypeText}
)

func list(t api.Type) api.Type {
	return api.Type{Kind: api.TypeList, Args: []api.Type{t}}
}

func record(fields ...api.Field) api.Type {
	return api.Type{Kind: api.TypeRecord, Fields: fields}
}

func variant(cases ...api.Field) api.Type {
	return api.Type{Kind: api.TypeVariant, Fields: cases}
}

func function(result api.Type, params ...api.Field) api.Type {
	return api.Type{Kind: api.TypeFunc, Args: []api.Type{result}, Fields: params}
}

func reference(module, name string, args ...api.Type) api.Type {
	return api.Type{Kind: api.TypeRef, Module: module, Name: name, Args: args}
}

func field(name string, t api.Type) api.Field {
	return api.Field{Name: name, Type: t}
}

func optional(name string, t api.Type) api.Field {
	return api.Field{Name: name, Type: t, Optional: true}
}

func number(n int) api.Expr {
	return api.Expr{Kind: api.ExprInt, Number: n}
}

func local(name string) api.Expr {
	return api.Expr{Kind: api.ExprLocal, Name: name}
}

func value(module, name string, types ...api.Type) api.Expr {
	return api.Expr{Kind: api.ExprValue, Module: module, Name: name, Types: types}
}

func operation(name string, kids ...api.Expr) api.Expr {
	return api.Expr{Kind: api.ExprOp, Name: name, Kids: kids}
}

func ascribe(e api.Expr, t api.Type) api.Expr {
	return api.Expr{Kind: api.ExprAscribe, Types: []api.Type{t}, Kids: []api.Expr{e}}
}

// labels returns labels with names that are separated by spaces.
func labels(names string) []api.Label {
	var result []api.Label
	for _, name := range strings.Fields(names) {
		result = append(result, api.Label{Name: name})
	}
	return result
}

// wantType checks that a source is a type.
func wantType(t *testing.T, source string, want api.Type) {
	t.Helper()
	got, at, err := parser.Type(source)
	if err != api.OK || at != 0 || !syntax.EqualTypes(got, want) {
		t.Errorf("%.300q is %v with the error %d at %d, not %v", source, got, err, at, want)
	}
}

func wantExpr(t *testing.T, source string, want api.Expr) {
	t.Helper()
	got, at, err := parser.Expr(source)
	if err != api.OK || at != 0 || !syntax.EqualExprs(got, want) {
		t.Errorf("%.300q is %v with the error %d at %d, not %v", source, got, err, at, want)
	}
}

func wantModule(t *testing.T, source string, want api.Module) {
	t.Helper()
	got, at, err := parser.Module(source)
	if err != api.OK || at != 0 || !syntax.EqualModules(got, want) {
		t.Errorf("%.300q is %v with the error %d at %d, not %v", source, got, err, at, want)
	}
}

// marked returns a source without its mark @, and the offset of the first byte behind the mark that is no blank (without a mark, 0).
func marked(source string) (string, int) {
	front, back, ok := strings.Cut(source, "@")
	if !ok {
		return source, 0
	}
	return front + back, len(front) + len(back) - len(strings.TrimLeft(back, " "))
}

// wrong checks that sources have an error at their marks, and no tree.
func wrong[T any](t *testing.T, parse func(string) (T, int, api.Errno), want api.Errno, sources ...string) {
	t.Helper()
	for _, s := range sources {
		source, offset := marked(s)
		tree, at, err := parse(source)
		if err != want || at != offset || !reflect.ValueOf(&tree).Elem().IsZero() {
			t.Errorf("%.300q has the error %d at %d and the tree %v, not %d at %d", source, err, at, tree, want, offset)
		}
	}
}

// nodes calls a function for all types and expressions of a tree.
func nodes(v reflect.Value, each func(node any)) {
	switch v.Kind() {
	case reflect.Slice:
		for i := range v.Len() {
			nodes(v.Index(i), each)
		}
	case reflect.Struct:
		each(v.Interface())
		for i := range v.NumField() {
			nodes(v.Field(i), each)
		}
	}
}

// memory adds the addresses of all lists of a value that are not empty, and reports whether each was new.
func memory(v reflect.Value, known map[uintptr]bool) bool {
	fresh := true
	switch v.Kind() {
	case reflect.Slice:
		if v.Len() > 0 {
			fresh = !known[v.Pointer()]
			known[v.Pointer()] = true
		}
		for i := range v.Len() {
			fresh = memory(v.Index(i), known) && fresh
		}
	case reflect.Struct:
		for i := range v.NumField() {
			fresh = memory(v.Field(i), known) && fresh
		}
	}
	return fresh
}

// loose writes trees as tokens in any order that stands for them, with parentheses where they may be left out.
type loose struct {
	choose sample.Choice
	tokens []string
}

func (l *loose) add(tokens ...string) {
	l.tokens = append(l.tokens, tokens...)
}

// source returns the tokens with blanks and comments between them.
func (l *loose) source() string {
	var b strings.Builder
	last := ""
	for _, token := range l.tokens {
		blanks := []string{" ", "\n", "\t\r", " // x := (\n", " //\n", "  "}
		if strings.Contains("()[]{},", token) || last != "" && strings.Contains("()[]{},", last) {
			blanks = append(blanks, "", "", "")
		}
		b.WriteString(blanks[l.choose(len(blanks))] + token)
		last = token
	}
	return b.String() + []string{"", " ", " //", "\n// \""}[l.choose(4)]
}

// shuffled calls a function for all numbers less than n, in any order.
func (l *loose) shuffled(n int, separator string, each func(i int)) {
	order := make([]int, 0, n)
	for i := range n {
		at := l.choose(i + 1)
		order = append(order[:at:at], append([]int{i}, order[at:]...)...)
	}
	l.ordered(n, separator, func(i int) { each(order[i]) })
}

func (l *loose) ordered(n int, separator string, each func(i int)) {
	for i := range n {
		if i > 0 {
			l.add(separator)
		}
		each(i)
	}
}

func (l *loose) origin(module string) {
	if module != "" {
		l.add(module, "::")
	}
}

func (l *loose) types(types []api.Type) {
	if len(types) > 0 {
		l.add("[")
		l.ordered(len(types), ",", func(i int) { l.typ(types[i]) })
		l.add("]")
	}
}

func (l *loose) fields(begin, separator, end string, fields []api.Field) {
	l.add(strings.Fields(begin)...)
	l.shuffled(len(fields), separator, func(i int) {
		l.add(fields[i].Name)
		if fields[i].Optional {
			l.add("?")
		}
		l.add(":")
		l.typ(fields[i].Type)
	})
	l.add(end)
}

func (l *loose) typ(t api.Type) {
	switch t.Kind {
	case api.TypeList:
		l.add("list")
		l.types(t.Args)
	case api.TypeRecord:
		l.fields("{", ",", "}", t.Fields)
	case api.TypeVariant:
		l.fields("<", "|", ">", t.Fields)
	case api.TypeFunc:
		l.fields("fn (", ",", ")", t.Fields)
		l.typ(t.Args[0])
	case api.TypeRef:
		l.origin(t.Module)
		l.add(t.Name)
		l.types(t.Args)
	default:
		l.add(map[int]string{api.TypeAny: "any", api.TypeNone: "none", api.TypeInt: "int", api.TypeBool: "bool", api.TypeText: "text"}[t.Kind])
	}
}

// operand writes an expression as a part of another one: in parentheses, unless it needs none anywhere.
func (l *loose) operand(e api.Expr) {
	switch e.Kind {
	case api.ExprText, api.ExprBool, api.ExprLocal, api.ExprValue, api.ExprRecord, api.ExprInject, api.ExprList, api.ExprAscribe:
		if l.choose(3) > 0 {
			l.expr(e)
			return
		}
	}
	l.add("(")
	l.expr(e)
	l.add(")")
}

// given writes names with expressions behind them.
func (l *loose) given(begin, end string, names []api.Label, kids []api.Expr) {
	l.add(begin)
	l.shuffled(len(names), ",", func(i int) {
		l.add(names[i].Name, ":")
		l.expr(kids[i])
	})
	l.add(end)
}

func (l *loose) expr(e api.Expr) {
	if l.choose(8) == 0 {
		l.add("(")
		defer l.add(")")
	}
	switch e.Kind {
	case api.ExprInt:
		digits, negative := strings.CutPrefix(strconv.Itoa(e.Number), "-")
		if negative {
			l.add("-")
		}
		l.add(digits)
	case api.ExprText:
		l.add(lexer.Quote(e.Text))
	case api.ExprBool:
		l.add([]string{"false", "true"}[e.Number])
	case api.ExprLocal, api.ExprValue:
		l.origin(e.Module)
		l.add(e.Name)
		l.types(e.Types)
	case api.ExprRecord:
		l.given("{", "}", e.Labels, e.Kids)
	case api.ExprProject:
		l.operand(e.Kids[0])
		l.add(".", e.Name)
	case api.ExprInject:
		l.add("<", e.Name, ":")
		l.expr(e.Kids[0])
		l.add(">")
	case api.ExprCall:
		l.operand(e.Kids[0])
		l.given("(", ")", e.Labels, e.Kids[1:])
	case api.ExprAscribe:
		l.add("(")
		l.expr(e.Kids[0])
		l.add(":")
		l.typ(e.Types[0])
		l.add(")")
	case api.ExprOp:
		if len(e.Kids) == 2 {
			l.operand(e.Kids[0])
		}
		l.add(e.Name)
		l.operand(e.Kids[len(e.Kids)-1])
	default:
		l.openExpr(e)
	}
}

// openExpr writes an expression that begins with a keyword, and a list.
func (l *loose) openExpr(e api.Expr) {
	switch e.Kind {
	case api.ExprFunc:
		l.formals(e)
		l.add("=>")
		l.expr(e.Kids[len(e.Kids)-1])
	case api.ExprLet:
		l.add("let", e.Name, "=")
		l.expr(e.Kids[0])
		l.add("in")
		l.expr(e.Kids[1])
	case api.ExprIf:
		l.add("if")
		l.types(e.Types)
		for i, kid := range e.Kids {
			l.expr(kid)
			l.add([][]string{{"then"}, {"else"}, nil}[i]...)
		}
	case api.ExprMatch:
		l.add("match")
		l.types(e.Types)
		l.expr(e.Kids[0])
		l.add("{")
		l.shuffled(len(e.Labels), ",", func(i int) {
			l.add(e.Labels[i].Name, e.Labels[i].Variable, "=>")
			l.expr(e.Kids[i+1])
		})
		l.add("}")
	case api.ExprList:
		l.add("[")
		l.typ(e.Types[0])
		l.add("|")
		l.ordered(len(e.Kids), ",", func(i int) { l.expr(e.Kids[i]) })
		l.add("]")
	case api.ExprFold:
		l.add("fold")
		l.types(e.Types)
		l.add(e.Name, ",", e.Text, "in")
		l.expr(e.Kids[0])
		l.add("from")
		l.expr(e.Kids[1])
		l.add("=>")
		l.expr(e.Kids[2])
	}
}

func (l *loose) formals(e api.Expr) {
	defaults := map[int]api.Expr{}
	for i, label := range e.Labels {
		if label.Optional {
			defaults[i] = e.Kids[len(defaults)]
		}
	}
	l.add("fn", "(")
	l.shuffled(len(e.Labels), ",", func(i int) {
		l.add(e.Labels[i].Name, ":")
		l.typ(e.Labels[i].Type)
		if e.Labels[i].Optional {
			l.add("=")
			l.expr(defaults[i])
		}
	})
	l.add(")")
}

func (l *loose) path(path string) {
	l.add(strings.Fields(strings.ReplaceAll(path, "/", " / "))...)
}

func (l *loose) module(m api.Module) {
	l.add("module")
	l.path(m.Path)
	for _, i := range m.Imports {
		l.add("import")
		l.path(i.Path)
		l.add("as", i.Alias)
	}
	for _, d := range m.Decls {
		if d.Exported {
			l.add("export")
		}
		if d.Deprecated {
			l.add("deprecated", lexer.Quote(d.Note))
		}
		l.decl(d)
	}
}

func (l *loose) decl(d api.Decl) {
	switch d.Kind {
	case api.DeclType:
		l.add("type", d.Name)
		l.params(d.Params, func(x api.Param) { l.add([]string{"+", "-", "="}[x.Variance], x.Name) })
		l.bounds(d)
		l.add("=")
		l.typ(d.Type)
	case api.DeclValue:
		l.add("let", d.Name)
		l.params(d.Params, func(x api.Param) {
			l.add(x.Name)
			if x.Bound.Kind != api.TypeAny || l.choose(2) == 0 {
				l.add("<:")
				l.typ(x.Bound)
			}
		})
		l.add(":")
		l.typ(d.Type)
		l.add("=")
		l.expr(d.Expr)
	case api.DeclUse:
		l.add("use", d.Module, "::", d.Target, "as", d.Name)
	}
}

// bounds writes the bounds of a type, in one of the ways that stand for them.
func (l *loose) bounds(d api.Decl) {
	ways := [][2]bool{{true, true}} // whether the lower one is written, and the upper one
	if syntax.EqualTypes(d.Lower, d.Type) && syntax.EqualTypes(d.Upper, d.Type) {
		ways = append(ways, [2]bool{false, false})
	}
	if d.Upper.Kind == api.TypeAny {
		ways = append(ways, [2]bool{true, false})
	}
	if d.Lower.Kind == api.TypeNone {
		ways = append(ways, [2]bool{false, true})
	}
	way := ways[l.choose(len(ways))]
	if way[0] {
		l.add(">:")
		l.typ(d.Lower)
	}
	if way[1] {
		l.add("<:")
		l.typ(d.Upper)
	}
}

func (l *loose) params(params []api.Param, each func(x api.Param)) {
	if len(params) > 0 {
		l.add("[")
		l.ordered(len(params), ",", func(i int) { each(params[i]) })
		l.add("]")
	}
}

// random returns choices of a random source.
func random(seed int64) sample.Choice {
	return rand.New(rand.NewSource(seed)).Intn
}
