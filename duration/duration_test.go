package duration_test

import (
	"math"
	"slices"
	"testing"

	"hemiola/api"
	"hemiola/duration"
)

// sizes are the durations of the note values in multiples of 945 ticks, in the order of All.
var sizes = []int{
	7680, 7168, 6144, 4096, 3840, 3584, 3072, 2048, 1920, 1792, 1536, 1024, 960, 896, 768, 512, 480, 448, 384, 256,
	240, 224, 192, 128, 120, 112, 96, 64, 60, 56, 48, 32, 30, 28, 24, 16, 15, 14, 12, 8,
}

// invalid are values that are no note values.
var invalid = []api.Value{
	{Log: -2}, {Log: 9}, {Dots: -1}, {Dots: 4}, {Log: 9, Dots: 4}, {Log: -2, Dots: 3}, {Log: 2, Dots: 4},
	{Log: math.MinInt}, {Log: math.MaxInt}, {Dots: math.MinInt}, {Dots: math.MaxInt}, {Log: math.MaxInt, Dots: math.MinInt},
}

// valid returns all note values in the order of sizes.
func valid() []api.Value {
	var l []api.Value
	for log := -1; log <= 8; log++ {
		for dots := 3; dots >= 0; dots-- {
			l = append(l, api.Value{Log: log, Dots: dots})
		}
	}
	return l
}

func TestP2_1Ticks(t *testing.T) {
	for i, v := range valid() {
		if e := duration.Check(v); e != api.OK {
			t.Errorf("Check(%v): error %d", v, e)
		}
		want := sizes[i] * 945
		if n, e := duration.Ticks(v); n != want || e != api.OK {
			t.Errorf("Ticks(%v) = %d, error %d; want %d", v, n, e, want)
		}
		if w, e := duration.Find(want); w != v || e != api.OK {
			t.Errorf("Find(%d) = %v, error %d; want %v", want, w, e, v)
		}
	}
	for _, v := range invalid {
		if e := duration.Check(v); e != api.ErrValue {
			t.Errorf("Check(%v): error %d", v, e)
		}
		if n, e := duration.Ticks(v); n != 0 || e != api.ErrValue {
			t.Errorf("Ticks(%v) = %d, error %d", v, n, e)
		}
	}
}

func TestP2_1FindNone(t *testing.T) {
	ticks := []int{math.MinInt, -483840, -1, 1, 483839, 483841, math.MaxInt}
	for n := 0; n <= 8193; n++ {
		if !slices.Contains(sizes, n) {
			ticks = append(ticks, n*945)
		}
	}
	for _, n := range ticks {
		if v, e := duration.Find(n); v != (api.Value{}) || e != api.ErrValue {
			t.Errorf("Find(%d) = %v, error %d", n, v, e)
		}
	}
}

func TestP2_2All(t *testing.T) {
	l := duration.All()
	if !slices.Equal(l, valid()) {
		t.Errorf("All() = %v", l)
	}
	l[0] = api.Value{}
	if !slices.Equal(duration.All(), valid()) {
		t.Error("a change of the result changes the next one")
	}
}

func TestP2_4Sum(t *testing.T) {
	long := make([]api.Value, duration.MaxList+1)
	for i := range long {
		long[i] = api.Value{Log: -1, Dots: 3}
	}
	for i, c := range []struct {
		l     []api.Value
		ticks int
		e     api.Errno
	}{
		{nil, 0, api.OK},
		{[]api.Value{}, 0, api.OK},
		{[]api.Value{{Log: 2}, {Log: 3, Dots: 1}, {Log: 4}}, 967680, api.OK},
		{long[:1024], 1024 * 7257600, api.OK},
		{long, 0, api.ErrLong},
		{append(slices.Clone(long), api.Value{Log: 9}), 0, api.ErrLong},
		{[]api.Value{{Log: 2}, {Log: 9}}, 0, api.ErrValue},
		{append(slices.Clone(long[:1023]), api.Value{Dots: -1}), 0, api.ErrValue},
	} {
		before := slices.Clone(c.l)
		if n, e := duration.Sum(c.l); n != c.ticks || e != c.e {
			t.Errorf("%d: Sum = %d, error %d; want %d, error %d", i, n, e, c.ticks, c.e)
		}
		if !slices.Equal(before, c.l) {
			t.Errorf("%d: Sum changes its argument", i)
		}
	}
}

func TestP2_6Scale(t *testing.T) {
	for _, v := range valid() {
		for by := -12; by <= 12; by++ {
			want, e := api.Value{Log: v.Log - by, Dots: v.Dots}, api.OK
			if want.Log < -1 || want.Log > 8 {
				want, e = api.Value{}, api.ErrValue
			}
			if w, f := duration.Scale(v, by); w != want || f != e {
				t.Errorf("Scale(%v, %d) = %v, error %d", v, by, w, f)
			}
		}
		for _, by := range []int{math.MinInt, math.MinInt + 1, math.MinInt + 8, math.MaxInt, math.MaxInt - 8} {
			if w, e := duration.Scale(v, by); w != (api.Value{}) || e != api.ErrValue {
				t.Errorf("Scale(%v, %d) = %v, error %d", v, by, w, e)
			}
		}
	}
	for _, v := range append(slices.Clone(invalid), api.Value{Log: 10}, api.Value{Log: -3}) {
		for _, by := range []int{0, v.Log, v.Log - 2, 2, -2} {
			if w, e := duration.Scale(v, by); w != (api.Value{}) || e != api.ErrValue {
				t.Errorf("Scale(%v, %d) = %v, error %d", v, by, w, e)
			}
		}
	}
}

func TestP2_7FlagsAndStems(t *testing.T) {
	flags := map[int]int{3: 1, 4: 2, 5: 3, 6: 4, 7: 5, 8: 6}
	for _, v := range valid() {
		if n := duration.Flags(v); n != flags[v.Log] {
			t.Errorf("Flags(%v) = %d", v, n)
		}
		if s := duration.Stemmed(v); s != (v.Log != -1 && v.Log != 0) {
			t.Errorf("Stemmed(%v) = %t", v, s)
		}
	}
	for _, v := range append(slices.Clone(invalid), api.Value{Log: 3, Dots: 4}, api.Value{Log: 5, Dots: -1}) {
		if duration.Flags(v) != 0 || duration.Stemmed(v) {
			t.Errorf("Flags(%v) = %d, Stemmed = %t", v, duration.Flags(v), duration.Stemmed(v))
		}
	}
}
