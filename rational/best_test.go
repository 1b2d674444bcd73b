package rational_test

import (
	"math"
	"math/big"
	"testing"

	"hemiola/api"
	"hemiola/rational"
)

// bestOfAll looks at the two fractions next to x of every denominator.
func bestOfAll(x rational.R, most int) (num, den int) {
	var least *big.Rat
	for d := 1; d <= most; d++ {
		below := new(big.Int).Div(new(big.Int).Mul(big.NewInt(int64(x.Num())), big.NewInt(int64(d))), big.NewInt(int64(x.Den()))).Int64()
		for n := below; n <= below+1; n++ {
			away := new(big.Rat).Sub(big.NewRat(n, int64(d)), exact(x))
			if away.Abs(away); least == nil || away.Cmp(least) < 0 {
				least, num, den = away, int(n), d
			}
		}
	}
	return num, den
}

func TestP1_5Best(t *testing.T) {
	for den := 1; den <= 24; den++ {
		for num := -30; num <= 30; num++ {
			for most := 1; most <= 26; most++ {
				testBest(t, of(t, num, den), most)
			}
		}
	}
	for _, x := range fractions(t) {
		for _, most := range []int{1, 2, 3, 7, 64, 300} {
			testBest(t, x, most)
		}
	}
}

func testBest(t *testing.T, x rational.R, most int) {
	t.Helper()
	num, den := bestOfAll(x, most)
	if got, e := x.Best(most); e != api.OK || got.Num() != num || got.Den() != den {
		t.Errorf("Best(%d) of %s = %s, error %d; want %d/%d", most, x.Text(), got.Text(), e, num, den)
	}
}

func TestP1_5BestOfTwo(t *testing.T) {
	for _, c := range []struct{ num, den, most, wantNum, wantDen int }{
		{355, 113, 10, 22, 7},
		{1, 2, 1, 0, 1},   // the lesser one of 0 and 1
		{-1, 2, 1, -1, 1}, // the lesser one of -1 and 0
		{5, 12, 4, 1, 2},  // not 1/3, which is as near
		{-5, 12, 3, -1, 2},
		{rational.Max - 1, rational.Max, rational.Max - 1, rational.Max - 2, rational.Max - 1},
		{rational.Max, rational.Max - 1, rational.Max - 2, rational.Max - 1, rational.Max - 2},
		{rational.Max - 1, rational.Max, rational.Max, rational.Max - 1, rational.Max},
		{-rational.Max, 1, rational.Max, -rational.Max, 1},
	} {
		if x, e := of(t, c.num, c.den).Best(c.most); e != api.OK || x != of(t, c.wantNum, c.wantDen) {
			t.Errorf("Best(%d) of %d/%d = %s, error %d", c.most, c.num, c.den, x.Text(), e)
		}
	}
}

func TestP1_5BestRange(t *testing.T) {
	for _, most := range []int{0, -1, math.MinInt, rational.Max + 1, math.MaxInt} {
		if x, e := of(t, 1, 3).Best(most); x != (rational.R{}) || e != api.ErrRange {
			t.Errorf("Best(%d) = %s, error %d", most, x.Text(), e)
		}
	}
}
