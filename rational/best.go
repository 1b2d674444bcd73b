package rational

import (
	"cmp"

	"hemiola/api"
)

// Best returns the nearest fraction to x whose denominator is at most a number.
func (x R) Best(most int) (R, api.Errno) {
	if most < 1 || most > Max {
		return R{}, api.ErrRange
	}
	if x.Den() <= most {
		return x, api.OK
	}
	a, b := x.neighbours(most)
	if x.nearer(a, b) <= 0 {
		return a, api.OK
	}
	return b, api.OK
}

// neighbours returns the greatest fraction below x and the least one above it, in either order, of those whose denominator is at most most; that of x must be greater.
//
// They are the last convergent of the continued fraction of x that is permitted, and the last fraction between the one before and the one after it. Their numerators are not greater than that of x, so they need no check.
func (x R) neighbours(most int) (R, R) {
	lastNum, lastDen, num, den := 0, 1, 1, 0
	for n, d := x.num, x.Den(); ; {
		term := floor(n, d)
		if lastDen+term*den > most {
			break
		}
		lastNum, lastDen, num, den = num, den, lastNum+term*num, lastDen+term*den
		n, d = d, n-term*d
	}
	term := (most - lastDen) / den
	return R{num, den - 1}, R{lastNum + term*num, lastDen + term*den - 1}
}

// nearer compares two of the neighbours of x: by their distances from x, then by their denominators, then by their values.
func (x R) nearer(a, b R) int {
	return cmp.Or(
		cmp.Compare(x.gap(a)*b.Den(), x.gap(b)*a.Den()),
		cmp.Compare(a.Den(), b.Den()),
		a.Cmp(b),
	)
}

// gap returns the distance of x and y, multiplied by both denominators.
func (x R) gap(y R) int {
	gap := x.num*y.Den() - y.num*x.Den()
	return max(gap, -gap)
}
