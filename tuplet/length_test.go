package tuplet_test

import (
	"math"
	"math/big"
	"math/rand"
	"slices"
	"testing"

	"hemiola/api"
	"hemiola/tuplet"
)

const (
	quarter = api.Whole / 4
	eighth  = api.Whole / 8
)

// wrong are lists that Check rejects, with their errors.
var wrong = []struct {
	l list
	e api.Errno
}{
	{list{tup(127, 2)}, api.ErrRange}, {list{{Count: 3, Actual: 3, Normal: 3}}, api.ErrRange}, {make(list, 17), api.ErrLimit}, {list{tup(1, 1), tup(0, 2)}, api.ErrOrder}, {list{tup(0, 2), tup(1, 2)}, api.ErrTuplet},
}

// factor returns the product of Normal / Actual of the tuplets that contain an event.
func factor(l list, event int) (product *big.Rat, depth int) {
	product = big.NewRat(1, 1)
	for _, u := range l {
		if slices.Contains(events(u, 128), event) {
			product.Mul(product, big.NewRat(int64(u.Normal), int64(u.Actual)))
			depth++
		}
	}
	return product, depth
}

func TestP3_2DepthAndRatio(t *testing.T) {
	proper(t, func(r *rand.Rand, l list, most int) {
		for event := -2; event <= most+1; event++ {
			want, depth := factor(l, event)
			num, den := tuplet.Ratio(l, event)
			if int64(num) != want.Num().Int64() || int64(den) != want.Denom().Int64() || tuplet.Depth(l, event) != depth {
				t.Fatalf("%v, event %d: Ratio %d/%d, Depth %d; want %s, %d", l, event, num, den, tuplet.Depth(l, event), want, depth)
			}
		}
	})
	deep := list{{Count: 1, Actual: 31, Normal: 32}, {Count: 1, Actual: 31, Normal: 32}, {Count: 1, Actual: 31, Normal: 32}}
	if num, den := tuplet.Ratio(deep, 0); num != 32768 || den != 29791 || tuplet.Depth(deep, 0) != 3 {
		t.Errorf("Ratio = %d/%d", num, den)
	}
	for _, event := range []int{math.MinInt, -1, 1, 128, math.MaxInt} {
		if num, den := tuplet.Ratio(deep, event); num != 1 || den != 1 || tuplet.Depth(deep, event) != 0 {
			t.Errorf("event %d: Ratio = %d/%d", event, num, den)
		}
	}
	for _, c := range wrong {
		if num, den := tuplet.Ratio(c.l, 1); num != 0 || den != 0 || tuplet.Depth(c.l, 1) != 0 {
			t.Errorf("%v: Ratio %d/%d, Depth %d", c.l, num, den, tuplet.Depth(c.l, 1))
		}
	}
	if tuplet.Depth(list{tup(0, 128)}, 127) != 1 {
		t.Error("the list is not checked for 128 events")
	}
}

func TestP3_3Length(t *testing.T) {
	three := list{tup(0, 3)}
	for i, c := range []struct {
		l                    list
		event, written, want int
		e                    api.Errno
	}{
		{three, 0, eighth, 161280, api.OK}, {three, 2, eighth, 161280, api.OK}, {three, 3, eighth, eighth, api.OK}, {nil, 127, 1, 1, api.OK}, {three, 1, 0, 0, api.OK},
		{three, 0, 4 * api.Whole, 5160960, api.OK}, {list{{Count: 1, Actual: 1, Normal: 32}, {Count: 1, Actual: 1, Normal: 32}, {Count: 1, Actual: 1, Normal: 32}}, 0, 4 * api.Whole, 4 * api.Whole * 32768, api.OK},
		{list{{Count: 1, Actual: 2, Normal: 3}, tup(0, 1)}, 0, 1, 1, api.OK}, // only the product must be whole
		{three, 1, 1, 0, api.ErrTick}, {three, 1, eighth + 1, 0, api.ErrTick},
		{three, -1, eighth, 0, api.ErrRange}, {three, 128, eighth, 0, api.ErrRange}, {three, math.MinInt, eighth, 0, api.ErrRange}, {three, math.MaxInt, eighth, 0, api.ErrRange},
		{three, 0, -1, 0, api.ErrRange}, {three, 0, 4*api.Whole + 1, 0, api.ErrRange}, {three, 0, math.MinInt, 0, api.ErrRange}, {three, 0, math.MaxInt, 0, api.ErrRange},
	} {
		if n, e := tuplet.Length(c.l, c.event, c.written); n != c.want || e != c.e {
			t.Errorf("%d: Length(%v, %d, %d) = %d, error %d; want %d, error %d", i, c.l, c.event, c.written, n, e, c.want, c.e)
		}
	}
	for _, c := range wrong {
		if n, e := tuplet.Length(c.l, 128, -1); n != 0 || e != c.e {
			t.Errorf("Length(%v) = %d, error %d; want %d", c.l, n, e, c.e)
		}
	}
}

func TestP3_3Lengths(t *testing.T) {
	nested := list{tup(0, 5), tup(1, 3)}
	w := []int{eighth, eighth / 2, eighth / 2, eighth / 2, eighth, quarter}
	for i, c := range []struct {
		l       list
		written []int
		want    []int
		e       api.Errno
	}{
		{nil, nil, nil, api.OK}, {nil, []int{1, 0, 4 * api.Whole}, []int{1, 0, 4 * api.Whole}, api.OK},
		{nested, w, []int{161280, 53760, 53760, 53760, 161280, quarter}, api.OK},
		{nested, w[:4], nil, api.ErrRange}, {list{tup(0, 2), tup(1, 2)}, []int{1, 1}, nil, api.ErrRange}, {list{tup(0, 2), tup(1, 2)}, []int{1, 1, -1}, nil, api.ErrTuplet},
		{nil, make([]int, 128), make([]int, 128), api.OK}, {nil, make([]int, 129), nil, api.ErrRange}, {make(list, 17), make([]int, 129), nil, api.ErrRange}, {make(list, 17), nil, nil, api.ErrLimit},
		{list{tup(0, 1)}, []int{1, -1}, nil, api.ErrTick}, {list{tup(1, 1)}, []int{-1, 1}, nil, api.ErrRange}, {list{tup(0, 1)}, []int{3, 4*api.Whole + 1}, nil, api.ErrRange},
	} {
		before, tuplets := slices.Clone(c.written), slices.Clone(c.l)
		got, e := tuplet.Lengths(c.l, c.written)
		if e != c.e || !slices.Equal(got, c.want) {
			t.Errorf("%d: Lengths = %v, error %d; want %v, error %d", i, got, e, c.want, c.e)
		}
		want := 0
		for _, n := range c.want {
			want += n
		}
		if n, e := tuplet.Sum(c.l, c.written); n != want || e != c.e {
			t.Errorf("%d: Sum = %d, error %d; want %d, error %d", i, n, e, want, c.e)
		}
		for i := range got {
			got[i] = -1
		}
		if !slices.Equal(before, c.written) || !slices.Equal(tuplets, c.l) {
			t.Errorf("%d: an argument has changed", i)
		}
	}
}

// lengths calculates exactly what Lengths must return.
func lengths(l list, written []int) ([]int, api.Errno) {
	var out []int
	for event, w := range written {
		if w < 0 || w > 4*api.Whole {
			return nil, api.ErrRange
		}
		product, _ := factor(l, event)
		if product.Mul(product, big.NewRat(int64(w), 1)); !product.IsInt() {
			return nil, api.ErrTick
		}
		out = append(out, int(product.Num().Int64()))
	}
	return out, api.OK
}

func TestP3_3LengthsAtRandom(t *testing.T) {
	found := map[api.Errno]int{}
	proper(t, func(r *rand.Rand, l list, most int) {
		written := make([]int, most)
		for i := range written {
			written[i] = r.Intn(9) * eighth / []int{1, 1, 1, 64, 512, 945, 30240}[r.Intn(7)]
			if r.Intn(100) == 0 {
				written[i] = -written[i]
			}
		}
		want, f := lengths(l, written)
		got, e := tuplet.Lengths(l, written)
		if e != f || !slices.Equal(got, want) {
			t.Fatalf("Lengths(%v, %v) = %v, error %d; want %v, error %d", l, written, got, e, want, f)
		}
		found[e]++
		for event, w := range written {
			n, e := tuplet.Length(l, event, w)
			if alone, f := lengths(nil, []int{w}); f != api.OK && (e != f || n != 0) || len(got) > 0 && n != got[event] {
				t.Fatalf("Length(%v, %d, %d) = %d, error %d; alone %v, error %d", l, event, w, n, e, alone, f)
			}
		}
	})
	if found[api.OK] < 100 || found[api.ErrTick] < 100 || found[api.ErrRange] < 50 {
		t.Errorf("the errors are not tested often enough: %v", found)
	}
}

func TestP3_6LengthConsequences(t *testing.T) {
	proper(t, func(r *rand.Rand, l list, most int) {
		written := make([]int, most)
		for i := range written {
			written[i] = r.Intn(4) * eighth
		}
		got, e := tuplet.Lengths(l, written)
		if e != api.OK {
			return
		}
		twice := slices.Clone(written)
		for i := range twice {
			twice[i] *= 2
		}
		doubled, e := tuplet.Lengths(l, twice)
		for i := range got {
			if e != api.OK || doubled[i] != 2*got[i] {
				t.Fatalf("the lengths are not multiplied with the written ones: %v, %v, %v", l, got, doubled)
			}
			mine := slices.DeleteFunc(slices.Clone(l), func(u api.Tuplet) bool { return !slices.Contains(events(u, most), i) })
			if n, e := tuplet.Length(mine, i, written[i]); n != got[i] || e != api.OK {
				t.Fatalf("the length of %d depends on others: %v, %d, %d", i, l, got[i], n)
			}
		}
	})
}
