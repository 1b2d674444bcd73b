package rational_test

import (
	"math"
	"math/big"
	"testing"

	"hemiola/api"
	"hemiola/rational"
)

// integers are ordinary numbers, and those near the limits of fractions and of ints.
var integers = []int{0, 1, -1, 2, -3, 4, 6, -12, 113, 355, 1 << 29, rational.Max - 1, rational.Max, -rational.Max, rational.Max + 1, -rational.Max - 1, 3 * rational.Max, 1 << 61, math.MaxInt, math.MaxInt - 1, math.MinInt, math.MinInt + 1}

// fractions returns all fractions with small numbers, and some with great ones.
func fractions(t *testing.T) []rational.R {
	t.Helper()
	var l []rational.R
	for den := 1; den <= 7; den++ {
		for num := -9; num <= 9; num++ {
			l = append(l, of(t, num, den))
		}
	}
	for _, p := range [][2]int{{rational.Max, 1}, {rational.Max, rational.Max - 1}, {rational.Max - 1, rational.Max}, {1, rational.Max}, {1, rational.Max - 1}, {1 << 15, 3}, {12345, 1 << 20}, {rational.Max - 1, 2}} {
		l = append(l, of(t, p[0], p[1]), of(t, -p[0], p[1]))
	}
	return l
}

func of(t *testing.T, num, den int) rational.R {
	t.Helper()
	x, e := rational.Of(num, den)
	if e != api.OK {
		t.Fatalf("Of(%d, %d): error %d", num, den, e)
	}
	return x
}

func exact(x rational.R) *big.Rat { return big.NewRat(int64(x.Num()), int64(x.Den())) }

// expect compares a result with an exact number, or with ErrOverflow if it is not representable.
func expect(t *testing.T, what string, x rational.R, e api.Errno, want *big.Rat) {
	t.Helper()
	limit := big.NewInt(rational.Max)
	if want.Num().CmpAbs(limit) > 0 || want.Denom().Cmp(limit) > 0 {
		if e != api.ErrOverflow || x != (rational.R{}) {
			t.Errorf("%s = %s, error %d; want ErrOverflow", what, x.Text(), e)
		}
		return
	}
	if e != api.OK || int64(x.Num()) != want.Num().Int64() || int64(x.Den()) != want.Denom().Int64() {
		t.Errorf("%s = %d/%d, error %d; want %s", what, x.Num(), x.Den(), e, want)
	}
}

func TestP1_1Of(t *testing.T) {
	for _, num := range integers {
		x, e := rational.Int(num)
		expect(t, "Int", x, e, new(big.Rat).SetInt64(int64(num)))
		for _, den := range integers {
			x, e := rational.Of(num, den)
			if den == 0 {
				if x != (rational.R{}) || e != api.ErrDivide {
					t.Errorf("Of(%d, 0) = %s, error %d", num, x.Text(), e)
				}
				continue
			}
			expect(t, "Of", x, e, new(big.Rat).SetFrac(big.NewInt(int64(num)), big.NewInt(int64(den))))
		}
	}
	if x := of(t, 6, -4); x != of(t, -3, 2) || x.Num() != -3 || x.Den() != 2 {
		t.Errorf("Of(6, -4) = %d/%d", x.Num(), x.Den())
	}
	if zero := (rational.R{}); zero.Num() != 0 || zero.Den() != 1 || zero != of(t, 0, -5) {
		t.Error("the zero value is not the fraction 0")
	}
}

func TestP1_2Calculations(t *testing.T) {
	all := fractions(t)
	for _, x := range all {
		if n := x.Neg(); exact(n).Cmp(new(big.Rat).Neg(exact(x))) != 0 {
			t.Errorf("-(%s) = %s", x.Text(), n.Text())
		}
		for _, y := range all {
			z, e := x.Add(y)
			expect(t, x.Text()+" + "+y.Text(), z, e, new(big.Rat).Add(exact(x), exact(y)))
			z, e = x.Sub(y)
			expect(t, x.Text()+" - "+y.Text(), z, e, new(big.Rat).Sub(exact(x), exact(y)))
			z, e = x.Mul(y)
			expect(t, x.Text()+" * "+y.Text(), z, e, new(big.Rat).Mul(exact(x), exact(y)))
			z, e = x.Div(y)
			if y == (rational.R{}) {
				if z != (rational.R{}) || e != api.ErrDivide {
					t.Errorf("%s / 0 = %s, error %d", x.Text(), z.Text(), e)
				}
				continue
			}
			expect(t, x.Text()+" / "+y.Text(), z, e, new(big.Rat).Quo(exact(x), exact(y)))
		}
	}
}

func TestP1_2Sum(t *testing.T) {
	one, greatest := of(t, 1, 1), of(t, rational.Max, 1)
	for i, c := range []struct {
		l    []rational.R
		want rational.R
		e    api.Errno
	}{
		{nil, rational.R{}, api.OK},
		{[]rational.R{}, rational.R{}, api.OK},
		{[]rational.R{of(t, -2, 3)}, of(t, -2, 3), api.OK},
		{[]rational.R{of(t, 1, 6), of(t, 1, 4), of(t, 7, 12)}, one, api.OK},
		{[]rational.R{greatest, one.Neg(), one}, greatest, api.OK},
		{[]rational.R{greatest, one, one.Neg()}, rational.R{}, api.ErrOverflow},
		{[]rational.R{of(t, 1, rational.Max), of(t, 1, 3), of(t, -1, 3)}, rational.R{}, api.ErrOverflow},
	} {
		if x, e := rational.Sum(c.l); x != c.want || e != c.e {
			t.Errorf("%d: Sum = %s, error %d", i, x.Text(), e)
		}
	}
}

func TestP1_3Order(t *testing.T) {
	all := fractions(t)
	for _, x := range all {
		if x.Sign() != exact(x).Sign() {
			t.Errorf("the sign of %s is %d", x.Text(), x.Sign())
		}
		for _, y := range all {
			if got := x.Cmp(y); got != exact(x).Cmp(exact(y)) || (got == 0) != (x == y) {
				t.Errorf("%s compared with %s: %d", x.Text(), y.Text(), got)
			}
		}
	}
}

func TestP1_4Rounding(t *testing.T) {
	for _, c := range []struct{ num, den, floor, ceil, round int }{
		{0, 1, 0, 0, 0}, {7, 1, 7, 7, 7}, {-7, 1, -7, -7, -7},
		{1, 2, 0, 1, 1}, {-1, 2, -1, 0, 0}, {5, 2, 2, 3, 3}, {-3, 2, -2, -1, -1},
		{4, 3, 1, 2, 1}, {5, 3, 1, 2, 2}, {-4, 3, -2, -1, -1}, {-5, 3, -2, -1, -2},
		{1, rational.Max, 0, 1, 0}, {-1, rational.Max, -1, 0, 0},
		{rational.Max, 1, rational.Max, rational.Max, rational.Max}, {-rational.Max, 1, -rational.Max, -rational.Max, -rational.Max},
		{rational.Max - 1, rational.Max, 0, 1, 1}, {-rational.Max, rational.Max - 1, -2, -1, -1},
	} {
		x := of(t, c.num, c.den)
		if x.Floor() != c.floor || x.Ceil() != c.ceil || x.Round() != c.round {
			t.Errorf("%s: Floor %d, Ceil %d, Round %d; want %v", x.Text(), x.Floor(), x.Ceil(), x.Round(), c)
		}
	}
}

func TestP1_7Consequences(t *testing.T) {
	all := fractions(t)[:19*5]
	for _, x := range all {
		for _, y := range all {
			sum, e := x.Add(y)
			if other, _ := y.Add(x); e != api.OK || sum != other {
				t.Fatal("addition is not commutative", x, y)
			}
			product, e := x.Mul(y)
			if other, _ := y.Mul(x); e != api.OK || product != other {
				t.Fatal("multiplication is not commutative", x, y)
			}
			if back, e := sum.Sub(y); e != api.OK || back != x {
				t.Fatal("subtracting what was added does not lead back", x, y)
			}
			for _, z := range all[:40] {
				testThree(t, x, y, z)
			}
		}
	}
}

// testThree tests the laws that concern three fractions.
func testThree(t *testing.T, x, y, z rational.R) {
	t.Helper()
	add := func(x, y rational.R) rational.R { s, _ := x.Add(y); return s }
	mul := func(x, y rational.R) rational.R { p, _ := x.Mul(y); return p }
	if add(add(x, y), z) != add(x, add(y, z)) || mul(mul(x, y), z) != mul(x, mul(y, z)) {
		t.Fatal("not associative", x, y, z)
	}
	if mul(x, add(y, z)) != add(mul(x, y), mul(x, z)) {
		t.Fatal("not distributive", x, y, z)
	}
	if x.Cmp(y) != add(x, z).Cmp(add(y, z)) {
		t.Fatal("addition changes the order", x, y, z)
	}
	if x.Cmp(y) <= 0 && y.Cmp(z) <= 0 && x.Cmp(z) > 0 || x.Cmp(y) != -y.Cmp(x) {
		t.Fatal("not an order", x, y, z)
	}
}

func TestP1_7Arguments(t *testing.T) {
	l := []rational.R{of(t, 1, 2), of(t, 1, 3)}
	rational.Sum(l)
	if l[0] != of(t, 1, 2) || l[1] != of(t, 1, 3) {
		t.Error("Sum changes its argument")
	}
}
