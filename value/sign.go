package value

import "runnel/api"

// Unary and Binary are what operators tell; false: of these there is nothing.
func Unary(sign string, a Value) (Value, bool) {
	switch {
	case sign == "-" && a.Kind == api.Int:
		return number(-a.N), true
	case sign == "!" && a.Kind == api.Bool:
		return truth(!a.isTrue()), true
	}
	return Value{}, false
}

func Binary(sign string, a, b Value) (Value, int, bool) {
	switch {
	case a.Kind == api.Int && b.Kind == api.Int:
		return ofNumbers(sign, a.N, b.N)
	case a.Kind == api.Bool && b.Kind == api.Bool:
		v, ok := ofTruths(sign, a.isTrue(), b.isTrue())
		return v, none, ok
	}
	return Value{}, none, false
}

// ofNumbers is what a sign makes of two Ints.
func ofNumbers(sign string, a, b int) (Value, int, bool) {
	if sign == "/" || sign == "%" {
		return divided(sign, a, b)
	}
	if n, ok := calculated(sign, a, b); ok {
		return number(n), none, true
	}
	if is, ok := compared(sign, a, b); ok {
		return truth(is), none, true
	}
	return Value{}, none, false
}

// divided is the quotient of two Ints, or for another sign the remainder.
func divided(sign string, a, b int) (Value, int, bool) {
	if b == 0 {
		return Value{}, Nought, true
	}
	if sign == "/" {
		return number(a / b), none, true
	}
	return number(a % b), none, true
}

func calculated(sign string, a, b int) (int, bool) {
	switch sign {
	case "+":
		return a + b, true
	case "-":
		return a - b, true
	case "*":
		return a * b, true
	}
	return 0, false
}

func compared(sign string, a, b int) (bool, bool) {
	switch sign {
	case "==":
		return a == b, true
	case "!=":
		return a != b, true
	case "<":
		return a < b, true
	case "<=":
		return a <= b, true
	case ">":
		return a > b, true
	case ">=":
		return a >= b, true
	}
	return false, false
}

// ofTruths is what a sign makes of two Bools.
func ofTruths(sign string, a, b bool) (Value, bool) {
	switch sign {
	case "&&":
		return truth(a && b), true
	case "||":
		return truth(a || b), true
	case "==":
		return truth(a == b), true
	case "!=":
		return truth(a != b), true
	}
	return Value{}, false
}
