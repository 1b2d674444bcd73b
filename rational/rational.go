// Package rational provides exact fractions of bounded size (layer 1, see shared/doc/01-rational.md).
package rational

import (
	"cmp"

	"hemiola/api"
)

// Max is the greatest numerator and denominator.
const Max = 1 << 30

// R is a fraction in lowest terms; the zero value is 0. Equal fractions are equal values.
type R struct {
	num  int
	more int // the denominator less 1, because the zero value must be 0/1
}

// Of returns num / den, and Int the integer n.
func Of(num, den int) (R, api.Errno) {
	if den == 0 {
		return R{}, api.ErrDivide
	}
	n, d := size(num), size(den)
	common := divisor(n, d)
	n, d = n/common, d/common
	if n > Max || d > Max {
		return R{}, api.ErrOverflow
	}
	x := R{num: int(n), more: int(d) - 1}
	if (num < 0) != (den < 0) {
		x.num = -x.num
	}
	return x, api.OK
}

func Int(n int) (R, api.Errno) { return Of(n, 1) }

// size returns the absolute value of n, which is no int if n is the least one.
func size(n int) uint64 {
	if n < 0 {
		return -uint64(n)
	}
	return uint64(n)
}

// divisor returns the greatest common divisor of two numbers that are not both 0.
func divisor(a, b uint64) uint64 {
	for b != 0 {
		a, b = b, a%b
	}
	return a
}

// Num and Den return the numerator and the denominator in lowest terms; the denominator is positive.
func (x R) Num() int { return x.num }

func (x R) Den() int { return x.more + 1 }

// Add, Sub, Mul and Div return x + y, x - y, x * y and x / y, and Neg returns -x.
func (x R) Add(y R) (R, api.Errno) {
	return Of(x.num*y.Den()+y.num*x.Den(), x.Den()*y.Den())
}

func (x R) Sub(y R) (R, api.Errno) { return x.Add(y.Neg()) }

func (x R) Mul(y R) (R, api.Errno) { return Of(x.num*y.num, x.Den()*y.Den()) }

func (x R) Div(y R) (R, api.Errno) {
	if y == (R{}) {
		return R{}, api.ErrDivide
	}
	return Of(x.num*y.Den(), x.Den()*y.num)
}

func (x R) Neg() R { return R{num: -x.num, more: x.more} }

// Cmp returns -1, 0 or 1 if x is less than, equal to or greater than y, and Sign does the same for 0.
func (x R) Cmp(y R) int { return cmp.Compare(x.num*y.Den(), y.num*x.Den()) }

func (x R) Sign() int { return x.Cmp(R{}) }

// Floor returns the greatest integer that is not greater than x, Ceil the least one that is not less, and Round the nearest one (upwards if there are two).
func (x R) Floor() int { return floor(x.num, x.Den()) }

func (x R) Ceil() int { return -floor(-x.num, x.Den()) }

func (x R) Round() int { return floor(2*x.num+x.Den(), 2*x.Den()) }

// floor returns the greatest integer that is not greater than num / den, for a positive den.
func floor(num, den int) int {
	quotient := num / den
	if num%den < 0 {
		quotient--
	}
	return quotient
}

// Sum returns the sum of fractions.
func Sum(l []R) (R, api.Errno) {
	var sum R
	for _, x := range l {
		var e api.Errno
		if sum, e = sum.Add(x); e != api.OK {
			return R{}, e
		}
	}
	return sum, api.OK
}
