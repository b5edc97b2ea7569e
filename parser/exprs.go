package parser

import (
	"math"
	"slices"
	"strconv"

	"modcert/api"
)

func (p *parser) expr() *api.Expr {
	switch {
	case p.accept("let"):
		return p.let()
	case p.accept("if"):
		return p.choice()
	case p.accept("match"):
		return p.match()
	case p.accept("fold"):
		return p.fold()
	case p.accept("fn"):
		return p.function()
	case p.word() == "not":
		return p.or(nil)
	}
	return p.or(p.unary(nil))
}

func (p *parser) let() *api.Expr {
	e := &api.Expr{Kind: api.ExprLet, Name: p.name()}
	p.expect("=")
	p.kid(e)
	p.expect("in")
	p.kid(e)
	return e
}

func (p *parser) choice() *api.Expr {
	e := &api.Expr{Kind: api.ExprIf, Types: p.bracketed()}
	p.kid(e)
	p.expect("then")
	p.kid(e)
	p.expect("else")
	p.kid(e)
	return e
}

func (p *parser) match() *api.Expr {
	e := &api.Expr{Kind: api.ExprMatch, Types: p.bracketed()}
	p.kid(e)
	p.expect("{")
	addParts(e, p.parts(",", "}", p.arm))
	return e
}

func (p *parser) fold() *api.Expr {
	e := &api.Expr{Kind: api.ExprFold, Types: p.bracketed(), Name: p.name()}
	p.expect(",")
	e.Text = p.name()
	p.expect("in")
	p.kid(e)
	p.expect("from")
	p.kid(e)
	p.expect("=>")
	p.kid(e)
	return e
}

func (p *parser) function() *api.Expr {
	e := &api.Expr{Kind: api.ExprFunc}
	p.expect("(")
	addParts(e, p.parts(",", ")", p.formal))
	p.expect("=>")
	p.kid(e)
	return e
}

// kid reads an expression as the next one of the Kids.
func (p *parser) kid(e *api.Expr) {
	e.Kids = append(e.Kids, *p.expr())
}

// bracketed reads a type in brackets.
func (p *parser) bracketed() []api.Type {
	p.expect("[")
	t := p.typeTree()
	p.expect("]")
	return []api.Type{*t}
}

func (p *parser) given(x *part) {
	p.expect(":")
	x.expr = p.expr()
}

func (p *parser) formal(x *part) {
	p.field(x)
	if p.accept("=") {
		x.label.Optional = true
		x.expr = p.expr()
	}
}

func (p *parser) arm(x *part) {
	x.label.Variable = p.name()
	p.expect("=>")
	x.expr = p.expr()
}

// addParts adds parts to the Labels and the Kids of an expression.
func addParts(e *api.Expr, parts []part) {
	for _, x := range parts {
		e.Labels = append(e.Labels, x.label)
		if x.expr != nil {
			e.Kids = append(e.Kids, *x.expr)
		}
	}
}

// or reads an expression from its first operand on. This and the levels below it are passed that operand if it has been read (and otherwise nil): so expressions that only contain each other do not go down through all levels.
func (p *parser) or(first *api.Expr) *api.Expr {
	return p.binary(first, p.and, math.MaxInt, "or")
}

func (p *parser) and(first *api.Expr) *api.Expr {
	return p.binary(first, p.not, math.MaxInt, "and")
}

func (p *parser) not(first *api.Expr) *api.Expr {
	if first == nil && p.accept("not") {
		return operation("not", p.not(nil))
	}
	return p.comparison(first)
}

func (p *parser) comparison(first *api.Expr) *api.Expr {
	return p.binary(first, p.sum, 1, "==", "===", "<")
}

func (p *parser) sum(first *api.Expr) *api.Expr {
	return p.binary(first, p.product, math.MaxInt, "+", "-", "++")
}

func (p *parser) product(first *api.Expr) *api.Expr {
	return p.binary(first, p.unary, math.MaxInt, "*")
}

// binary reads operands of the next level with operators between them, which associate to the left, and of which there can be most.
func (p *parser) binary(first *api.Expr, next func(first *api.Expr) *api.Expr, most int, operators ...string) *api.Expr {
	left := next(first)
	for range most {
		if !slices.Contains(operators, p.word()) {
			break
		}
		operator := p.take().Text
		left = operation(operator, left, next(nil))
	}
	return left
}

func operation(name string, operands ...*api.Expr) *api.Expr {
	e := &api.Expr{Kind: api.ExprOp, Name: name}
	for _, operand := range operands {
		e.Kids = append(e.Kids, *operand)
	}
	return e
}

func (p *parser) unary(first *api.Expr) *api.Expr {
	switch {
	case first != nil:
		return first
	case p.accept("length"):
		return operation("length", p.unary(nil))
	case p.accept("-"):
		return p.number("-")
	}
	return p.postfix(p.primary())
}

// postfix reads what can stand behind an expression that is a primary.
func (p *parser) postfix(e *api.Expr) *api.Expr {
	for {
		switch {
		case p.accept("."):
			e = &api.Expr{Kind: api.ExprProject, Name: p.name(), Kids: []api.Expr{*e}}
		case p.accept("("):
			e = &api.Expr{Kind: api.ExprCall, Kids: []api.Expr{*e}}
			addParts(e, p.parts(",", ")", p.given))
		default:
			return e
		}
	}
}

func (p *parser) primary() *api.Expr {
	switch p.tokens[0].Kind {
	case api.TokenNumber:
		return p.number("")
	case api.TokenText:
		return &api.Expr{Kind: api.ExprText, Text: p.take().Text}
	case api.TokenName:
		return p.variable()
	}
	switch {
	case p.accept("true"):
		return &api.Expr{Kind: api.ExprBool, Number: 1}
	case p.accept("false"):
		return &api.Expr{Kind: api.ExprBool}
	case p.accept("{"):
		e := &api.Expr{Kind: api.ExprRecord}
		addParts(e, p.parts(",", "}", p.given))
		return e
	case p.accept("<"):
		return p.injection()
	case p.accept("["):
		return p.list()
	}
	p.expect("(")
	return p.parentheses()
}

// number reads a Number behind a sign.
func (p *parser) number(sign string) *api.Expr {
	token := p.read(api.TokenNumber)
	n, err := strconv.ParseInt(sign+token.Text, 10, 64)
	if err != nil {
		panic(failure{token.Offset, api.ErrRange})
	}
	return &api.Expr{Kind: api.ExprInt, Number: int(n)}
}

// variable reads a local variable or a value.
func (p *parser) variable() *api.Expr {
	e := &api.Expr{Kind: api.ExprValue, Name: p.name()}
	if p.accept("::") {
		e.Module, e.Name = e.Name, p.name()
	}
	e.Types = p.args()
	if e.Module == "" && len(e.Types) == 0 {
		e.Kind = api.ExprLocal
	}
	return e
}

func (p *parser) injection() *api.Expr {
	e := &api.Expr{Kind: api.ExprInject, Name: p.name()}
	p.expect(":")
	p.kid(e)
	p.expect(">")
	return e
}

func (p *parser) list() *api.Expr {
	e := &api.Expr{Kind: api.ExprList, Types: []api.Type{*p.typeTree()}}
	p.expect("|")
	if !p.accept("]") {
		p.separated("]", func() { p.kid(e) })
	}
	return e
}

// parentheses reads what follows a parenthesis. Those that stand directly behind it are counted, because a source can have more of them than a recursion should go down.
func (p *parser) parentheses() *api.Expr {
	open := 1
	for p.accept("(") {
		open++
	}
	e := p.closed(p.expr())
	for range open - 1 {
		e = p.closed(p.or(p.postfix(e)))
	}
	return e
}

// closed reads what follows an expression in parentheses.
func (p *parser) closed(e *api.Expr) *api.Expr {
	if p.accept(":") {
		e = &api.Expr{Kind: api.ExprAscribe, Types: []api.Type{*p.typeTree()}, Kids: []api.Expr{*e}}
	}
	p.expect(")")
	return e
}
