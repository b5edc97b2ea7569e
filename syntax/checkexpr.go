package syntax

import (
	"modcert/api"
	"modcert/lexer"
)

// CheckExpr returns the error of the form of an expression.
func CheckExpr(e api.Expr) api.Errno {
	if exprSize(e, api.MaxNodes) > api.MaxNodes || depth(e, exprKids) > api.MaxDepth {
		return api.ErrTooLarge
	}
	for node := range exprNodes(e) {
		if err := checkExprNode(node); err != api.OK {
			return err
		}
	}
	return api.OK
}

// checkExprNode returns the error of an expression without its kids.
func checkExprNode(e api.Expr) api.Errno {
	names := make([]string, 0, len(e.Labels))
	for _, label := range e.Labels {
		names = append(names, label.Name)
	}
	switch {
	case len(e.Types) != exprTypeCount(e) || len(e.Kids) != kidCount(e) || !namedExprParts(e) || !namedLabelParts(e):
		return api.ErrArg
	case len(e.Labels) > api.MaxFields || len(e.Types) > api.MaxParams || len(e.Text) > api.MaxText:
		return api.ErrTooLarge
	case !exprNames(e) || !allNames(names):
		return api.ErrName
	}
	if err := checkOrder(names); err != api.OK {
		return err
	}
	if e.Kind == api.ExprFold && e.Name == e.Text {
		return api.ErrExists
	}
	for t := range exprTypes(e) {
		if err := CheckType(t); err != api.OK {
			return err
		}
	}
	return api.OK
}

// exprTypeCount returns the number of Types that the form of an expression asks for.
func exprTypeCount(e api.Expr) int {
	switch e.Kind {
	case api.ExprValue:
		return len(e.Types)
	case api.ExprAscribe, api.ExprIf, api.ExprMatch, api.ExprList, api.ExprFold:
		return 1
	}
	return 0
}

// kidCount returns the number of Kids that the form of an expression asks for, or -1 if its kind or its operator is unknown.
func kidCount(e api.Expr) int {
	switch e.Kind {
	case api.ExprInt, api.ExprText, api.ExprBool, api.ExprLocal, api.ExprValue:
		return 0
	case api.ExprProject, api.ExprInject, api.ExprAscribe:
		return 1
	case api.ExprLet:
		return 2
	case api.ExprIf, api.ExprFold:
		return 3
	case api.ExprRecord:
		return len(e.Labels)
	case api.ExprFunc:
		return optionalCount(e.Labels) + 1
	case api.ExprCall, api.ExprMatch:
		return len(e.Labels) + 1
	case api.ExprList:
		return len(e.Kids)
	case api.ExprOp:
		return operandCount(e.Name)
	}
	return -1
}

func optionalCount(labels []api.Label) int {
	count := 0
	for _, label := range labels {
		if label.Optional {
			count++
		}
	}
	return count
}

// operandCount returns the number of operands of an operator, or -1 if it is unknown.
func operandCount(operator string) int {
	switch operator {
	case "+", "-", "*", "<", "==", "===", "++", "and", "or":
		return 2
	case "not", "length":
		return 1
	}
	return -1
}

// namedExprParts reports whether an expression has nothing beside Types, Kids and what the form of its kind names: what is left without them is zero.
func namedExprParts(e api.Expr) bool {
	rest := e
	rest.Kind, rest.Types, rest.Kids = 0, nil, nil
	switch e.Kind {
	case api.ExprInt:
		rest.Number = 0
	case api.ExprText:
		rest.Text = ""
	case api.ExprBool:
		if e.Number == 1 {
			rest.Number = 0
		}
	case api.ExprLocal, api.ExprProject, api.ExprInject, api.ExprLet, api.ExprOp:
		rest.Name = ""
	case api.ExprValue:
		rest.Module, rest.Name = "", ""
	case api.ExprRecord, api.ExprFunc, api.ExprCall, api.ExprMatch:
		rest.Labels = nil
	case api.ExprFold:
		rest.Name, rest.Text = "", ""
	}
	return EqualExprs(rest, api.Expr{})
}

// namedLabelParts does the same for the labels of an expression.
func namedLabelParts(e api.Expr) bool {
	for _, rest := range e.Labels {
		rest.Name = ""
		switch e.Kind {
		case api.ExprFunc:
			rest.Type, rest.Optional = api.Type{}, false
		case api.ExprMatch:
			rest.Variable = ""
		}
		if !equalLabels(rest, api.Label{}) {
			return false
		}
	}
	return true
}

// exprNames reports whether Module, Name and Text of an expression, and the variables of its arms, are as in the form of its kind.
func exprNames(e api.Expr) bool {
	switch e.Kind {
	case api.ExprLocal, api.ExprProject, api.ExprInject, api.ExprLet:
		return lexer.IsName(e.Name)
	case api.ExprValue:
		return isOrigin(e.Module) && lexer.IsName(e.Name)
	case api.ExprFold:
		return lexer.IsName(e.Name) && lexer.IsName(e.Text)
	case api.ExprMatch:
		for _, arm := range e.Labels {
			if !lexer.IsName(arm.Variable) {
				return false
			}
		}
	}
	return true
}
