// Package reckon works out single operations on numbers, as the streams and the machine both have them.
package reckon

import "relay/api"

// Pair works out an operation on two numbers: one of the kinds from api.Add to api.Or. Any other kind makes 0.
func Pair(kind int, a int, b int) int {
	switch kind {
	case api.Add:
		return a + b
	case api.Sub:
		return a - b
	case api.Mul:
		return a * b
	case api.Div:
		return quotient(a, b)
	case api.Less:
		return truth(a < b)
	case api.Same:
		return truth(a == b)
	case api.And:
		return truth(a != 0 && b != 0)
	case api.Or:
		return truth(a != 0 || b != 0)
	}
	return 0
}

// Not turns a truth round.
func Not(a int) int {
	return truth(a == 0)
}

// Choose is b if a is true, else c.
func Choose(a int, b int, c int) int {
	if a != 0 {
		return b
	}
	return c
}

// quotient takes the divisor -1 apart, because the least number has no quotient by it: the difference wraps around to the least number again.
func quotient(a int, b int) int {
	if b == 0 {
		return 0
	}
	if b == -1 {
		return 0 - a
	}
	return a / b
}

func truth(is bool) int {
	if is {
		return 1
	}
	return 0
}
