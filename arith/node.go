package arith

import "almoner/api"

// node is a part of an expression.
type node interface {
	// value evaluates the part, which may read and assign variables.
	value(v *variables) (int64, api.Errno)
}

type number int64

func (n number) value(*variables) (int64, api.Errno) {
	return int64(n), api.OK
}

type name string

func (n name) value(v *variables) (int64, api.Errno) {
	return v.get(string(n))
}

type prefix struct {
	sign  string
	right node
}

func (x prefix) value(v *variables) (int64, api.Errno) {
	right, err := x.right.value(v)
	if err != api.OK {
		return 0, err
	}
	switch x.sign {
	case "-":
		return -right, api.OK
	case "~":
		return ^right, api.OK
	case "!":
		return truth(right == 0), api.OK
	}
	return right, api.OK
}

type binary struct {
	sign        string
	left, right node
}

func (x binary) value(v *variables) (int64, api.Errno) {
	left, err := x.left.value(v)
	if err != api.OK {
		return 0, err
	}
	if x.sign == "&&" && left == 0 || x.sign == "||" && left != 0 {
		return truth(left != 0), api.OK
	}
	right, err := x.right.value(v)
	if err != api.OK {
		return 0, err
	}
	return operate(x.sign, left, right)
}

type choice struct {
	condition, yes, no node
}

func (x choice) value(v *variables) (int64, api.Errno) {
	condition, err := x.condition.value(v)
	if err != api.OK {
		return 0, err
	}
	if condition != 0 {
		return x.yes.value(v)
	}
	return x.no.value(v)
}

// assignment has an empty sign if it asks for no operation with the old value.
type assignment struct {
	name, sign string
	right      node
}

func (x assignment) value(v *variables) (int64, api.Errno) {
	value, err := x.right.value(v)
	if err == api.OK && x.sign != "" {
		value, err = x.combined(v, value)
	}
	if err != api.OK {
		return 0, err
	}
	v.set(x.name, value)
	return value, api.OK
}

// combined returns the old value of the name, joined with one from the right.
func (x assignment) combined(v *variables, right int64) (int64, api.Errno) {
	old, err := v.get(x.name)
	if err != api.OK {
		return 0, err
	}
	return operate(x.sign, old, right)
}

// operate returns the result of an operator with two operands.
func operate(sign string, left, right int64) (int64, api.Errno) {
	switch sign {
	case "/", "%":
		return divide(sign, left, right)
	case "<<":
		return left << lowBits(right), api.OK
	case ">>":
		return left >> lowBits(right), api.OK
	case "*":
		return left * right, api.OK
	case "+":
		return left + right, api.OK
	case "-":
		return left - right, api.OK
	case "&":
		return left & right, api.OK
	case "^":
		return left ^ right, api.OK
	case "|":
		return left | right, api.OK
	}
	return truth(holds(sign, left, right)), api.OK
}

func divide(sign string, left, right int64) (int64, api.Errno) {
	if right == 0 {
		return 0, api.ErrZero
	}
	if sign == "/" {
		return left / right, api.OK
	}
	return left % right, api.OK
}

// lowBits returns by how many bits an operand asks to shift.
func lowBits(n int64) uint64 {
	return uint64(n) & 63
}

// holds reports whether two operands are as an operator asks.
func holds(sign string, left, right int64) bool {
	switch sign {
	case "==":
		return left == right
	case "!=":
		return left != right
	case "<":
		return left < right
	case "<=":
		return left <= right
	case ">":
		return left > right
	case ">=":
		return left >= right
	}
	// The left operands of && and || that decide alone have done so.
	return right != 0
}

func truth(is bool) int64 {
	if is {
		return 1
	}
	return 0
}
