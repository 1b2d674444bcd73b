package duration_test

import (
	"math"
	"slices"
	"testing"

	"hemiola/api"
	"hemiola/duration"
)

// decompositions returns, for each multiple of 945 ticks, the list that Decompose must find, as indices of sizes, and whether there is one.
func decompositions(most int) ([][]int, []bool) {
	lists, exist := make([][]int, most+1), make([]bool, most+1)
	exist[0] = true
	for n := 1; n <= most; n++ {
		for i, size := range sizes {
			if size > n || !exist[n-size] {
				continue
			}
			// The greatest first duration is tried first, so only a list with fewer is better.
			if rest := lists[n-size]; !exist[n] || len(rest)+1 < len(lists[n]) {
				lists[n], exist[n] = append([]int{i}, rest...), true
			}
		}
	}
	return lists, exist
}

func TestP2_3Decompose(t *testing.T) {
	all := valid()
	lists, exist := decompositions(8192)
	for n, l := range lists {
		got, e := duration.Decompose(n * 945)
		if !exist[n] {
			if len(got) != 0 || e != api.ErrValue {
				t.Errorf("Decompose(%d * 945) = %v, error %d; want ErrValue", n, got, e)
			}
			continue
		}
		var want []api.Value
		for _, i := range l {
			want = append(want, all[i])
		}
		if e != api.OK || !slices.Equal(got, want) {
			t.Errorf("Decompose(%d * 945) = %v, error %d; want %v", n, got, e, want)
		}
	}
}

func TestP2_3DecomposeOrder(t *testing.T) {
	for n := range 8193 {
		l, e := duration.Decompose(n * 945)
		if e != api.OK {
			continue
		}
		if !slices.IsSortedFunc(l, func(v, w api.Value) int {
			a, _ := duration.Ticks(v)
			b, _ := duration.Ticks(w)
			return b - a
		}) {
			t.Errorf("Decompose(%d * 945) = %v: the durations increase", n, l)
		}
		if sum, e := duration.Sum(l); sum != n*945 || e != api.OK {
			t.Errorf("Decompose(%d * 945) = %v: the sum is %d, error %d", n, l, sum, e)
		}
	}
}

func TestP2_3DecomposeExamples(t *testing.T) {
	for _, c := range []struct {
		ticks int
		want  []api.Value
		e     api.Errno
	}{
		{0, nil, api.OK},
		{2419200, []api.Value{{}, {Log: 2}}, api.OK},
		{duration.MaxTicks, []api.Value{{Log: -1, Dots: 3}, {Log: 2}}, api.OK},
		{31 * 945, []api.Value{{Log: 7}, {Log: 8, Dots: 3}}, api.OK},
		{945, nil, api.ErrValue}, {33 * 945, nil, api.ErrValue},
		{1, nil, api.ErrValue}, {483841, nil, api.ErrValue}, {duration.MaxTicks - 1, nil, api.ErrValue},
		{-1, nil, api.ErrRange}, {-945, nil, api.ErrRange}, {math.MinInt, nil, api.ErrRange},
		{duration.MaxTicks + 1, nil, api.ErrRange}, {duration.MaxTicks + 945, nil, api.ErrRange}, {math.MaxInt, nil, api.ErrRange},
	} {
		if l, e := duration.Decompose(c.ticks); !slices.Equal(l, c.want) || e != c.e {
			t.Errorf("Decompose(%d) = %v, error %d; want %v, error %d", c.ticks, l, e, c.want, c.e)
		}
	}
}

func TestP2_8Consequences(t *testing.T) {
	for _, v := range duration.All() {
		ticks, _ := duration.Ticks(v)
		if w, e := duration.Find(ticks); w != v || e != api.OK {
			t.Errorf("Find of the ticks of %v = %v, error %d", v, w, e)
		}
		text, _ := duration.Text(v)
		if w, e := duration.Parse(text); w != v || e != api.OK {
			t.Errorf("Parse of the text of %v = %v, error %d", v, w, e)
		}
		if l, e := duration.Decompose(ticks); e != api.OK || !slices.Equal(l, []api.Value{v}) {
			t.Errorf("Decompose of the ticks of %v = %v, error %d", v, l, e)
		}
		if w, e := duration.Scale(v, 1); e == api.OK {
			if twice, _ := duration.Ticks(w); twice != 2*ticks {
				t.Errorf("Scale(%v, 1) lasts %d", v, twice)
			}
		}
	}
}
