package tuplet_test

import (
	"math/big"
	"math/rand"
	"slices"
	"testing"

	"hemiola/api"
	"hemiola/tuplet"
)

func TestP3_4Units(t *testing.T) {
	ones := func(n, ticks int) []int { return slices.Repeat([]int{ticks}, n) }
	for i, c := range []struct {
		l       list
		written []int
		want    []int
		e       api.Errno
	}{
		{nil, ones(3, eighth), nil, api.OK},
		{list{tup(0, 3)}, ones(3, eighth), []int{3}, api.OK},
		{list{tup(0, 3)}, ones(4, eighth), []int{3}, api.OK},
		{list{tup(0, 2)}, []int{quarter, eighth}, []int{3}, api.OK},
		{list{tup(0, 5), tup(1, 3)}, []int{eighth, eighth / 2, eighth / 2, eighth / 2, eighth}, []int{3, 4}, api.OK},
		{list{tup(0, 3), tup(0, 3)}, ones(3, eighth), nil, api.ErrTuplet},
		{list{{Count: 1, Actual: 2, Normal: 3}}, []int{4 * api.Whole}, []int{-1}, api.OK},
		{list{{Count: 1, Actual: 4, Normal: 3}}, []int{4 * api.Whole}, []int{0}, api.OK},
		{list{{Count: 2, Actual: 2, Normal: 3}}, ones(2, 4*api.Whole), nil, api.ErrTuplet},
		{list{tup(0, 16)}, ones(16, 7560*3), []int{4}, api.OK},
		{list{tup(0, 16)}, ones(16, 7560*9), nil, api.ErrTuplet},
		{list{{Count: 3, Actual: 3, Normal: 2}}, ones(3, api.Whole/256), []int{8}, api.OK},
		{list{{Count: 3, Actual: 3, Normal: 2}}, ones(3, api.Whole/512), nil, api.ErrTuplet},
		{list{tup(0, 3)}, ones(3, 0), nil, api.ErrTuplet},
		{list{tup(0, 3)}, []int{eighth, eighth, eighth / 2}, nil, api.ErrTuplet},
		{list{tup(0, 3)}, ones(3, quarter*3/2), nil, api.ErrTuplet},
		{list{{Count: 3, Actual: 4, Normal: 2}}, []int{2, 2, 2}, nil, api.ErrTuplet},
		// The length of the event is whole, but not that within the outer tuplet.
		{list{{Count: 1, Actual: 2, Normal: 3}, tup(0, 1)}, []int{1}, nil, api.ErrTuplet},
		{list{tup(0, 3)}, ones(2, eighth), nil, api.ErrRange}, {list{tup(0, 1)}, []int{1}, nil, api.ErrTick}, {list{tup(0, 1)}, []int{-1}, nil, api.ErrRange}, {list{tup(1, 1), tup(0, 2)}, ones(2, 1), nil, api.ErrOrder}, {make(list, 17), nil, nil, api.ErrLimit},
	} {
		before := slices.Clone(c.written)
		if got, e := tuplet.Units(c.l, c.written); e != c.e || !slices.Equal(got, c.want) {
			t.Errorf("%d: Units = %v, error %d; want %v, error %d", i, got, e, c.want, c.e)
		}
		if !slices.Equal(before, c.written) {
			t.Errorf("%d: Units changes its argument", i)
		}
	}
}

// units calculates exactly what Units must return if all lengths are whole.
func units(l list, written []int) ([]int, api.Errno) {
	var out []int
	for i, u := range l {
		sum := new(big.Rat)
		for _, event := range events(u, len(written)) {
			product, _ := factor(l[i+1:], event)
			if product.Mul(product, big.NewRat(int64(written[event]), 1)); !product.IsInt() {
				return nil, api.ErrTuplet
			}
			sum.Add(sum, product)
		}
		sum.Quo(sum, big.NewRat(int64(u.Actual), 1))
		log := -1
		for ticks := int64(2 * api.Whole); log <= 8 && sum.Cmp(big.NewRat(ticks, 1)) != 0; ticks /= 2 {
			log++
		}
		if log > 8 {
			return nil, api.ErrTuplet
		}
		out = append(out, log)
	}
	return out, api.OK
}

func TestP3_4UnitsAtRandom(t *testing.T) {
	found := map[api.Errno]int{}
	proper(t, func(r *rand.Rand, l list, most int) {
		written := make([]int, most)
		for i := range written {
			written[i] = eighth >> r.Intn(2)
		}
		want, f := lengths(l, written)
		if f == api.OK {
			want, f = units(l, written)
		}
		got, e := tuplet.Units(l, written)
		if e != f || e == api.OK && !slices.Equal(got, want) || e != api.OK && len(got) > 0 {
			t.Fatalf("Units(%v, %v) = %v, error %d; want %v, error %d", l, written, got, e, want, f)
		}
		if len(l) > 0 {
			found[e]++
		}
	})
	if found[api.OK] < 50 || found[api.ErrTuplet] < 100 {
		t.Errorf("the results are not tested often enough: %v", found)
	}
}
