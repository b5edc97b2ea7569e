package evaluate

import "modcert/api"

func (r *run) operation(e *api.Expr, f *frame) *value {
	operand := func(i int) *value { return r.ofKind(operandKind(e.Name), &e.Kids[i], f) }
	a := operand(0)
	switch e.Name {
	case "not":
		return boolean(a.number == 0)
	case "length":
		return integer(len(a.text))
	case "and", "or":
		if decided := (a.number == 1) == (e.Name == "or"); decided {
			return a
		}
		return operand(1)
	}
	return combined(e.Name, a, operand(1))
}

// operandKind returns the kind of the operands of an operator.
func operandKind(operator string) int {
	switch operator {
	case "++", "===", "length":
		return api.ValueText
	case "and", "or", "not":
		return api.ValueBool
	}
	return api.ValueInt
}

// combined returns the result of an operator with the values of both operands.
func combined(operator string, a, b *value) *value {
	switch operator {
	case "+":
		return integer(a.number + b.number)
	case "-":
		return integer(a.number - b.number)
	case "*":
		return integer(a.number * b.number)
	case "<":
		return boolean(a.number < b.number)
	case "==":
		return boolean(a.number == b.number)
	case "===":
		return boolean(a.text == b.text)
	}
	require(len(a.text)+len(b.text) <= api.MaxText, api.ErrTooLarge)
	return &value{kind: api.ValueText, text: a.text + b.text}
}

func integer(n int) *value {
	return &value{kind: api.ValueInt, number: n}
}

func boolean(holds bool) *value {
	v := &value{kind: api.ValueBool}
	if holds {
		v.number = 1
	}
	return v
}
