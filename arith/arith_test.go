package arith

import (
	"math/big"
	"testing"

	"signalbox/api"
)

// edges are numbers at which something may turn.
func edges() []int {
	l := []int{api.Least, api.Least + 1, api.Least / 2, -1 << 32, -3037000500, -1 << 31, -8, -7, -2, -1, 0, 1, 2, 3, 7, 8, 1<<31 - 1, 1 << 31, 3037000499, 3037000500, 1 << 32, api.Most / 2, api.Most - 1, api.Most}
	return l
}

// within is x as an answer: a number, or TOver.
func within(x *big.Int) (int, api.Code) {
	if !x.IsInt64() {
		return 0, api.TOver
	}
	return int(x.Int64()), api.OK
}

func same(t *testing.T, what string, a, b, got int, c api.Code, want int, d api.Code) {
	t.Helper()
	if got != want || c != d {
		t.Errorf("%s of %d and %d: %d, %d; want %d, %d", what, a, b, got, c, want, d)
	}
}

// P1.1, P1.3: each answer is what the numbers without bounds give, or a code.
func TestAgainstNumbersWithoutBounds(t *testing.T) {
	for _, a := range edges() {
		for _, b := range edges() {
			x, y := big.NewInt(int64(a)), big.NewInt(int64(b))
			sum, c := Add(a, b)
			want, d := within(new(big.Int).Add(x, y))
			same(t, "Add", a, b, sum, c, want, d)
			rest, c := Sub(a, b)
			want, d = within(new(big.Int).Sub(x, y))
			same(t, "Sub", a, b, rest, c, want, d)
			product, c := Mul(a, b)
			want, d = within(new(big.Int).Mul(x, y))
			same(t, "Mul", a, b, product, c, want, d)
			quo, c := Div(a, b)
			left, e := Mod(a, b)
			if b == 0 {
				same(t, "Div", a, b, quo, c, 0, api.TZero)
				same(t, "Mod", a, b, left, e, 0, api.TZero)
				continue
			}
			want, d = within(new(big.Int).Quo(x, y))
			same(t, "Div", a, b, quo, c, want, d)
			want, d = within(new(big.Int).Rem(x, y))
			same(t, "Mod", a, b, left, e, want, d)
		}
		minus, c := Neg(a)
		want, d := within(new(big.Int).Neg(big.NewInt(int64(a))))
		same(t, "Neg", a, 0, minus, c, want, d)
	}
}

// P1.1: the document's examples.
func TestExamples(t *testing.T) {
	x, c := Div(-7, 2)
	same(t, "Div", -7, 2, x, c, -3, api.OK)
	x, c = Mod(-7, 2)
	same(t, "Mod", -7, 2, x, c, -1, api.OK)
	x, c = Mod(api.Least, -1)
	same(t, "Mod", api.Least, -1, x, c, 0, api.OK)
}

// P1.2: Do goes to the same calls by the instruction's number.
func TestDoOfNumbers(t *testing.T) {
	for _, a := range edges() {
		for _, b := range edges() {
			for op, call := range map[int]func(int, int) (int, api.Code){api.Add: Add, api.Sub: Sub, api.Mul: Mul, api.Div: Div, api.Mod: Mod} {
				got, c := Do(op, a, b)
				want, d := call(a, b)
				same(t, "Do", a, b, got, c, want, d)
			}
			got, c := Do(api.Neg, a, b)
			want, d := Neg(a)
			same(t, "Do Neg", a, b, got, c, want, d)
		}
	}
}

// P1.2: relations and truths answer 1 or 0.
func TestDoOfTruths(t *testing.T) {
	for _, a := range edges() {
		for _, b := range edges() {
			for op, so := range map[int]bool{
				api.Eq: a == b, api.Ne: a != b, api.Lt: a < b, api.Le: a <= b, api.Gt: a > b, api.Ge: a >= b,
				api.And: a != 0 && b != 0, api.Or: a != 0 || b != 0, api.Not: a == 0,
			} {
				want := 0
				if so {
					want = 1
				}
				got, c := Do(op, a, b)
				same(t, "Do", a, b, got, c, want, api.OK)
			}
		}
	}
}

// P1.2: any other op is none.
func TestDoOfOthers(t *testing.T) {
	for _, op := range []int{api.Least, -1, 0, api.Nop, api.Push, api.SetLocal, api.Jump, api.JumpZero, api.Write, 39, api.Most} {
		got, c := Do(op, 4, 2)
		same(t, "Do of no op", 4, 2, got, c, 0, api.ErrArg)
	}
}
