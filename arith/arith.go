// Package arith is checked arithmetic: see the document, chapter 1.
package arith

import (
	"cmp"

	"signalbox/api"
)

// How a left number stands to a right one, as cmp.Compare tells it.
const (
	below = iota - 1
	alike
	above
)

// Add: the sum, or TOver.
func Add(a, b int) (int, api.Code) {
	sum := a + b
	// A sum that went round lies on the wrong side of a.
	if (sum > a) != (b > 0) {
		return 0, api.TOver
	}
	return sum, api.OK
}

// Sub: the difference, or TOver.
func Sub(a, b int) (int, api.Code) {
	rest := a - b
	if (rest < a) != (b > 0) {
		return 0, api.TOver
	}
	return rest, api.OK
}

// Mul: the product, or TOver.
func Mul(a, b int) (int, api.Code) {
	if b == 0 {
		return 0, api.OK
	}
	product := a * b
	// Least by -1 goes round to Least again, in both directions: no division would show it.
	if a == api.Least && b == -1 || product/b != a {
		return 0, api.TOver
	}
	return product, api.OK
}

// Div: the quotient, cut toward 0; TZero, or TOver of Least by -1.
func Div(a, b int) (int, api.Code) {
	if b == 0 {
		return 0, api.TZero
	}
	if a == api.Least && b == -1 {
		return 0, api.TOver
	}
	return a / b, api.OK
}

// Mod: what Div leaves over; TZero.
func Mod(a, b int) (int, api.Code) {
	if b == 0 {
		return 0, api.TZero
	}
	// Least by -1 has no quotient, but leaves nothing over.
	if b == -1 {
		return 0, api.OK
	}
	return a % b, api.OK
}

// Neg: 0 less a, or TOver.
func Neg(a int) (int, api.Code) {
	return Sub(0, a)
}

// Do does the instruction op of a and b; ErrArg, if op is none from Add to Not.
func Do(op, a, b int) (int, api.Code) {
	switch op {
	case api.Add:
		return Add(a, b)
	case api.Sub:
		return Sub(a, b)
	case api.Mul:
		return Mul(a, b)
	case api.Div:
		return Div(a, b)
	case api.Mod:
		return Mod(a, b)
	case api.Neg:
		return Neg(a)
	case api.Eq, api.Ne, api.Lt, api.Le, api.Gt, api.Ge:
		return number(relates(op, cmp.Compare(a, b))), api.OK
	case api.And, api.Or, api.Not:
		return number(joins(op, a != 0, b != 0)), api.OK
	}
	return 0, api.ErrArg
}

// relates says whether two numbers that stand in that order to each other are as op asks.
func relates(op, order int) bool {
	switch op {
	case api.Ne:
		return order != alike
	case api.Le:
		if order == below {
			return true
		}
		fallthrough
	case api.Eq:
		return order == alike
	case api.Ge:
		if order == alike {
			return true
		}
		fallthrough
	case api.Gt:
		return order == above
	}
	return order == below
}

// joins says what op makes of two truths.
func joins(op int, a, b bool) bool {
	switch op {
	case api.And:
		return a && b
	case api.Or:
		return a || b
	}
	return !a
}

// number is 1 of what is so, else 0.
func number(so bool) int {
	if so {
		return 1
	}
	return 0
}
