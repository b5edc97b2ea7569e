package printer

import (
	"strconv"

	"modcert/api"
)

// Levels of expressions. Those of the operators between them stand in their table.
const (
	openLevel    = 0 // expressions that begin with a keyword and go on as far as possible
	signLevel    = 7 // negative numbers
	postfixLevel = 8 // what has something behind its first part
	primaryLevel = 9
)

// operator is an operator with its level, and the least levels of its operands. One with a single operand has no left one.
type operator struct {
	name               string
	level, left, right int
}

var operators = [...]operator{
	{"or", 1, 1, 2}, {"and", 2, 2, 3}, {"not", 3, 0, 3}, {"==", 4, 5, 5}, {"===", 4, 5, 5}, {"<", 4, 5, 5},
	{"+", 5, 5, 6}, {"-", 5, 5, 6}, {"++", 5, 5, 6}, {"*", 6, 6, 7}, {"length", 7, 0, 7},
}

// operatorOf returns the operator of an expression.
func operatorOf(e api.Expr) operator {
	for _, x := range operators {
		if x.name == e.Name {
			return x
		}
	}
	return operator{}
}

func level(e api.Expr) int {
	switch e.Kind {
	case api.ExprLet, api.ExprIf, api.ExprMatch, api.ExprFold, api.ExprFunc:
		return openLevel
	case api.ExprOp:
		return operatorOf(e).level
	case api.ExprProject, api.ExprCall:
		return postfixLevel
	case api.ExprInt:
		if e.Number < 0 {
			return signLevel
		}
	}
	return primaryLevel
}

// part writes a part of an expression, in parentheses if its level is less than the least one.
func (w *writer) part(e api.Expr, least int) {
	if level(e) >= least {
		w.writeExpr(e)
		return
	}
	w.WriteString("(")
	w.writeExpr(e)
	w.WriteString(")")
}

func (w *writer) writeExpr(e api.Expr) {
	writers := [...]func(w *writer, e api.Expr){
		api.ExprInt: (*writer).number, api.ExprText: (*writer).text, api.ExprBool: (*writer).truth,
		api.ExprLocal: (*writer).value, api.ExprValue: (*writer).value, api.ExprRecord: (*writer).record,
		api.ExprProject: (*writer).projection, api.ExprInject: (*writer).injection, api.ExprFunc: (*writer).function,
		api.ExprCall: (*writer).call, api.ExprLet: (*writer).let, api.ExprAscribe: (*writer).ascription,
		api.ExprIf: (*writer).choice, api.ExprMatch: (*writer).match, api.ExprList: (*writer).elements,
		api.ExprFold: (*writer).fold, api.ExprOp: (*writer).operation,
	}
	writers[e.Kind](w, e)
}

func (w *writer) number(e api.Expr) {
	w.WriteString(strconv.Itoa(e.Number))
}

func (w *writer) text(e api.Expr) {
	w.literal(e.Text)
}

func (w *writer) truth(e api.Expr) {
	w.WriteString(strconv.FormatBool(e.Number == 1))
}

// value writes a local variable or a value.
func (w *writer) value(e api.Expr) {
	w.qualified(e.Module, e.Name)
	w.arguments(e.Types)
}

func (w *writer) record(e api.Expr) {
	w.WriteString("{")
	w.given(e.Labels, e.Kids)
	w.WriteString("}")
}

// given writes the fields of a record, or the arguments of a call.
func (w *writer) given(labels []api.Label, kids []api.Expr) {
	w.list(", ", len(labels), func(i int) {
		w.WriteString(labels[i].Name + ": ")
		w.writeExpr(kids[i])
	})
}

func (w *writer) projection(e api.Expr) {
	w.part(e.Kids[0], postfixLevel)
	w.WriteString("." + e.Name)
}

func (w *writer) injection(e api.Expr) {
	w.WriteString("<" + e.Name + ": ")
	w.writeExpr(e.Kids[0])
	w.WriteString(">")
}

func (w *writer) function(e api.Expr) {
	defaults := e.Kids
	w.WriteString("fn(")
	w.list(", ", len(e.Labels), func(i int) {
		w.WriteString(e.Labels[i].Name + ": ")
		w.writeType(e.Labels[i].Type)
		if e.Labels[i].Optional {
			w.WriteString(" = ")
			w.writeExpr(defaults[0])
			defaults = defaults[1:]
		}
	})
	w.WriteString(") => ")
	w.writeExpr(defaults[0])
}

func (w *writer) call(e api.Expr) {
	w.part(e.Kids[0], postfixLevel)
	w.WriteString("(")
	w.given(e.Labels, e.Kids[1:])
	w.WriteString(")")
}

// words writes the kids of an expression, each behind its words.
func (w *writer) words(e api.Expr, words ...string) {
	for i, kid := range e.Kids {
		w.WriteString(words[i])
		w.writeExpr(kid)
	}
}

func (w *writer) let(e api.Expr) {
	w.words(e, "let "+e.Name+" = ", " in ")
}

func (w *writer) ascription(e api.Expr) {
	w.words(e, "(")
	w.WriteString(" : ")
	w.writeType(e.Types[0])
	w.WriteString(")")
}

func (w *writer) choice(e api.Expr) {
	w.WriteString("if")
	w.arguments(e.Types)
	w.words(e, " ", " then ", " else ")
}

func (w *writer) match(e api.Expr) {
	w.WriteString("match")
	w.arguments(e.Types)
	w.WriteString(" ")
	w.writeExpr(e.Kids[0])
	w.WriteString(" {")
	w.list(", ", len(e.Labels), func(i int) {
		w.WriteString(e.Labels[i].Name + " " + e.Labels[i].Variable + " => ")
		w.writeExpr(e.Kids[i+1])
	})
	w.WriteString("}")
}

func (w *writer) elements(e api.Expr) {
	w.WriteString("[")
	w.writeType(e.Types[0])
	w.WriteString("|")
	if len(e.Kids) > 0 {
		w.WriteString(" ")
	}
	w.list(", ", len(e.Kids), func(i int) { w.writeExpr(e.Kids[i]) })
	w.WriteString("]")
}

func (w *writer) fold(e api.Expr) {
	w.WriteString("fold")
	w.arguments(e.Types)
	w.words(e, " "+e.Name+", "+e.Text+" in ", " from ", " => ")
}

func (w *writer) operation(e api.Expr) {
	operator, last := operatorOf(e), len(e.Kids)-1
	if last > 0 {
		w.part(e.Kids[0], operator.left)
		w.WriteString(" ")
	}
	w.WriteString(operator.name + " ")
	w.part(e.Kids[last], operator.right)
}
