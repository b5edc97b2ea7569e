// Package sample makes trees and environments for the tests of the other packages: trees that have the form of a source (layer 6), in which everything occurs that such trees can have, and environments that are well-formed (layer 8).
package sample

import (
	"math"
	"slices"
	"strconv"
	"strings"

	"modcert/api"
)

// Choice chooses one of the numbers from 0 to n - 1. All that is made depends on its choices alone.
type Choice func(n int) int

// Type returns a type with a depth of at most one more than levels.
func (choose Choice) Type(levels int) api.Type {
	if levels == 0 || choose(4) == 0 {
		return choose.smallType()
	}
	switch choose(5) {
	case 0:
		return api.Type{Kind: api.TypeList, Args: choose.types(1, levels-1)}
	case 1:
		return api.Type{Kind: api.TypeRecord, Fields: choose.fields(levels - 1)}
	case 2:
		return api.Type{Kind: api.TypeVariant, Fields: choose.fields(levels - 1)}
	case 3:
		params := choose.fields(levels - 1)
		for i := range params {
			params[i].Optional = choose.yes()
		}
		return api.Type{Kind: api.TypeFunc, Fields: params, Args: choose.types(1, levels-1)}
	}
	return api.Type{Kind: api.TypeRef, Module: choose.origin(), Name: choose.typeName(), Args: choose.types(choose(4), levels-1)}
}

func (choose Choice) smallType() api.Type {
	basic := [...]int{api.TypeAny, api.TypeNone, api.TypeInt, api.TypeBool, api.TypeText}
	if n := choose(len(basic) + 2); n < len(basic) {
		return api.Type{Kind: basic[n]}
	}
	return api.Type{Kind: api.TypeRef, Module: choose.origin(), Name: choose.typeName()}
}

func (choose Choice) types(count, levels int) []api.Type {
	var list []api.Type
	for range count {
		list = append(list, choose.Type(levels))
	}
	return list
}

func (choose Choice) fields(levels int) []api.Field {
	var list []api.Field
	for _, name := range choose.names() {
		list = append(list, api.Field{Name: name, Type: choose.Type(levels)})
	}
	return list
}

func (choose Choice) yes() bool {
	return choose(2) == 0
}

// allNames returns names in increasing order.
func allNames() []string {
	return []string{"a", "aB", "a_", "ab", "b", "list0", "x", strings.Repeat("z", api.MaxName)}
}

func (choose Choice) name() string {
	list := allNames()
	return list[choose(len(list))]
}

func (choose Choice) typeName() string {
	return [...]string{"A", "B", "Fn", "N_1", "Int"}[choose(5)]
}

// origin returns the alias of a module, or nothing.
func (choose Choice) origin() string {
	return [...]string{"", "m", "s0"}[choose(3)]
}

// names returns names of one list.
func (choose Choice) names() []string {
	rare := 2 + choose(6)
	return slices.DeleteFunc(allNames(), func(string) bool { return choose(rare) > 0 })
}

// Expr returns an expression with a depth of at most one more than levels.
func (choose Choice) Expr(levels int) api.Expr {
	if levels == 0 || choose(6) == 0 {
		return choose.smallExpr(levels)
	}
	e := api.Expr{Kind: api.ExprRecord + choose(1+api.ExprOp-api.ExprRecord)}
	kids := 0
	switch e.Kind {
	case api.ExprRecord, api.ExprCall, api.ExprMatch, api.ExprFunc:
		e.Labels = choose.labels(e.Kind, levels-1)
		kids = kidsOf(e)
	case api.ExprProject, api.ExprInject:
		e.Name, kids = choose.name(), 1
	case api.ExprLet:
		e.Name, kids = choose.name(), 2
	case api.ExprAscribe:
		kids = 1
	case api.ExprIf:
		kids = 3
	case api.ExprList:
		kids = choose(4)
	case api.ExprFold:
		e.Name, e.Text, kids = choose.name(), "acc", 3
	case api.ExprOp:
		e.Name, kids = choose.operator()
	}
	switch e.Kind {
	case api.ExprAscribe, api.ExprIf, api.ExprMatch, api.ExprList, api.ExprFold:
		e.Types = choose.types(1, min(levels, 2))
	}
	for range kids {
		e.Kids = append(e.Kids, choose.Expr(levels-1))
	}
	return e
}

// kidsOf returns the number of Kids of an expression with labels.
func kidsOf(e api.Expr) int {
	switch e.Kind {
	case api.ExprRecord:
		return len(e.Labels)
	case api.ExprFunc:
		count := 1
		for _, label := range e.Labels {
			if label.Optional {
				count++
			}
		}
		return count
	}
	return len(e.Labels) + 1
}

func (choose Choice) labels(kind, levels int) []api.Label {
	var list []api.Label
	for _, name := range choose.names() {
		label := api.Label{Name: name}
		switch kind {
		case api.ExprMatch:
			label.Variable = choose.name()
		case api.ExprFunc:
			label.Type, label.Optional = choose.Type(min(levels, 2)), choose.yes()
		}
		list = append(list, label)
	}
	return list
}

// operator returns an operator with the number of its operands.
func (choose Choice) operator() (string, int) {
	if choose(4) == 0 {
		return [...]string{"not", "length"}[choose(2)], 1
	}
	return [...]string{"+", "-", "*", "<", "==", "===", "++", "and", "or"}[choose(9)], 2
}

// smallExpr returns an expression without kids.
func (choose Choice) smallExpr(levels int) api.Expr {
	switch choose(5) {
	case 0:
		numbers := [...]int{0, 1, -1, 42, -307, math.MaxInt, math.MinInt}
		return api.Expr{Kind: api.ExprInt, Number: numbers[choose(len(numbers))]}
	case 1:
		return api.Expr{Kind: api.ExprText, Text: choose.text()}
	case 2:
		return api.Expr{Kind: api.ExprBool, Number: choose(2)}
	case 3:
		e := api.Expr{Kind: api.ExprValue, Module: choose.origin(), Name: choose.name(), Types: choose.types(choose(3), min(levels, 2))}
		if e.Module != "" || len(e.Types) > 0 {
			return e
		}
	}
	return api.Expr{Kind: api.ExprLocal, Name: choose.name()}
}

func (choose Choice) text() string {
	return [...]string{"", "a b", "\"\\\n", "\x00\xff\u00e9", "// let", "in", "("}[choose(7)]
}

// Module returns a module whose types and expressions have a depth of at most one more than levels.
func (choose Choice) Module(levels int) api.Module {
	m := api.Module{Path: [...]string{"m/v1", "geo/shapes2/v12", "a/b/c/d/v0"}[choose(3)]}
	for i := range choose(4) {
		suffix := strconv.Itoa(i)
		m.Imports = append(m.Imports, api.Import{Path: "lib" + suffix + "/v" + suffix, Alias: "s" + suffix})
	}
	for i := range choose(6) {
		m.Decls = append(m.Decls, choose.decl(strconv.Itoa(i), levels))
	}
	return m
}

// decl returns a declaration with a name that ends with a number.
func (choose Choice) decl(number string, levels int) api.Decl {
	d := api.Decl{Kind: choose(3), Exported: choose.yes()}
	if d.Exported && choose.yes() {
		d.Deprecated, d.Note = true, choose.text()
	}
	switch d.Kind {
	case api.DeclType:
		d.Name = "T" + number
		for i := range choose(4) {
			d.Params = append(d.Params, api.Param{Name: "P" + strconv.Itoa(i), Variance: choose(3)})
		}
		choose.bounds(&d, levels)
	case api.DeclValue:
		d.Name = "v" + number
		for i := range choose(4) {
			d.Params = append(d.Params, api.Param{Name: "X" + strconv.Itoa(i), Bound: choose.Type(choose(2) * levels)})
		}
		d.Type, d.Expr = choose.Type(levels), choose.Expr(levels)
	case api.DeclUse:
		d.Name, d.Target, d.Module = "v"+number, choose.name(), "s0"
		if choose.yes() {
			d.Name, d.Target = "T"+number, choose.typeName()
		}
	}
	return d
}

// bounds gives a type its bounds and its definition. Basic ones are frequent, because some of them are not written.
func (choose Choice) bounds(d *api.Decl, levels int) {
	d.Type = choose.Type(choose(2) * levels)
	d.Lower, d.Upper = d.Type, d.Type
	if choose.yes() {
		d.Lower = choose.Type(choose(2) * levels)
	}
	if choose.yes() {
		d.Upper = choose.Type(choose(2) * levels)
	}
}
