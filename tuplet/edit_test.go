package tuplet_test

import (
	"math"
	"math/rand"
	"slices"
	"testing"

	"hemiola/api"
	"hemiola/tuplet"
)

func TestP3_5Insert(t *testing.T) {
	nested := list{tup(0, 5), tup(1, 3)}
	for i, c := range []struct {
		l                 list
		events, at, count int
		want              list
		e                 api.Errno
	}{
		{nil, 0, 0, 128, nil, api.OK}, {nil, 128, 128, 0, nil, api.OK},
		{nested, 6, 0, 2, list{tup(2, 5), tup(3, 3)}, api.OK}, {nested, 6, 1, 2, list{tup(0, 7), tup(3, 3)}, api.OK}, {nested, 6, 2, 2, list{tup(0, 7), tup(1, 5)}, api.OK},
		{nested, 6, 4, 2, list{tup(0, 7), tup(1, 3)}, api.OK}, {nested, 6, 5, 2, nested, api.OK}, {nested, 6, 6, 122, nested, api.OK}, {nested, 6, 2, 0, nested, api.OK},
		{nested, 6, -1, 1, nil, api.ErrRange}, {nested, 6, 7, 1, nil, api.ErrRange}, {nested, 6, 0, -1, nil, api.ErrRange}, {nested, 6, 0, 123, nil, api.ErrRange}, {nested, 6, 0, math.MaxInt, nil, api.ErrRange}, {nested, 6, math.MinInt, math.MinInt, nil, api.ErrRange}, {nested, 6, math.MaxInt, 0, nil, api.ErrRange},
		{nested, 4, -1, 1, nil, api.ErrRange}, {list{tup(1, 1), tup(0, 2)}, 2, -1, -1, nil, api.ErrOrder}, {make(list, 17), 2, -1, -1, nil, api.ErrLimit}, {nil, 129, 0, 0, nil, api.ErrRange}, {nil, -1, 0, 0, nil, api.ErrRange},
	} {
		before := slices.Clone(c.l)
		got, e := tuplet.Insert(c.l, c.events, c.at, c.count)
		if e != c.e || !tuplet.Equal(got, c.want) {
			t.Errorf("%d: Insert = %v, error %d; want %v, error %d", i, got, e, c.want, c.e)
		}
		for i := range got {
			got[i].First = 99
		}
		if !slices.Equal(before, c.l) {
			t.Errorf("%d: Insert changes or returns its argument", i)
		}
	}
}

func TestP3_5Delete(t *testing.T) {
	nested := list{tup(0, 5), tup(1, 3)}
	for i, c := range []struct {
		l                 list
		events, at, count int
		want              list
		e                 api.Errno
	}{
		{nil, 0, 0, 0, nil, api.OK}, {nil, 128, 0, 128, nil, api.OK}, {nested, 6, 0, 6, nil, api.OK}, {nested, 6, 6, 0, nested, api.OK}, {nested, 6, 2, 0, nested, api.OK},
		{nested, 6, 0, 1, list{tup(0, 4), tup(0, 3)}, api.OK}, {nested, 6, 0, 2, list{tup(0, 3), tup(0, 2)}, api.OK}, {nested, 6, 1, 3, list{tup(0, 2)}, api.OK}, {nested, 6, 2, 1, list{tup(0, 4), tup(1, 2)}, api.OK}, {nested, 6, 3, 3, list{tup(0, 3), tup(1, 2)}, api.OK}, {nested, 6, 5, 1, nested, api.OK}, {nested, 6, 0, 5, nil, api.OK},
		{list{tup(4, 2)}, 8, 1, 2, list{tup(2, 2)}, api.OK},
		{nested, 6, -1, 1, nil, api.ErrRange}, {nested, 6, 0, -1, nil, api.ErrRange}, {nested, 6, 4, 3, nil, api.ErrRange}, {nested, 6, 7, 0, nil, api.ErrRange}, {nested, 6, math.MaxInt, math.MaxInt, nil, api.ErrRange}, {nested, 6, 0, math.MaxInt, nil, api.ErrRange}, {nested, 6, math.MinInt, math.MaxInt, nil, api.ErrRange},
		{list{tup(1, 1), tup(0, 2)}, 2, -1, -1, nil, api.ErrOrder}, {make(list, 17), 2, -1, -1, nil, api.ErrLimit}, {nested, 4, 9, 9, nil, api.ErrRange}, {nil, 129, 0, 0, nil, api.ErrRange},
	} {
		before := slices.Clone(c.l)
		got, e := tuplet.Delete(c.l, c.events, c.at, c.count)
		if e != c.e || !tuplet.Equal(got, c.want) {
			t.Errorf("%d: Delete = %v, error %d; want %v, error %d", i, got, e, c.want, c.e)
		}
		for i := range got {
			got[i].First = 99
		}
		if !slices.Equal(before, c.l) {
			t.Errorf("%d: Delete changes or returns its argument", i)
		}
	}
}

// mapped returns the tuplets with the events that a function gives their events, in order; the function returns -1 for none.
func mapped(l list, most int, place func(event int) int) list {
	var out list
	for _, u := range l {
		var left []int
		for _, event := range events(u, most) {
			if p := place(event); p >= 0 {
				left = append(left, p)
			}
		}
		if len(left) > 0 {
			u.First, u.Count = left[0], left[len(left)-1]-left[0]+1
			out = append(out, u)
		}
	}
	return tuplet.Canonical(out)
}

func TestP3_6InsertAndDelete(t *testing.T) {
	proper(t, func(r *rand.Rand, l list, most int) {
		at, count := r.Intn(most+1), r.Intn(4)
		inserted, e := tuplet.Insert(l, most, at, count)
		want := mapped(l, most, func(event int) int {
			if event >= at {
				return event + count
			}
			return event
		})
		if e != api.OK || !tuplet.Equal(inserted, want) || tuplet.Check(inserted, most+count) != api.OK {
			t.Fatalf("Insert(%v, %d, %d, %d) = %v, error %d; want %v", l, most, at, count, inserted, e, want)
		}
		if back, e := tuplet.Delete(inserted, most+count, at, count); e != api.OK || !tuplet.Equal(back, l) {
			t.Fatalf("Delete(Insert(%v)) = %v, error %d", l, back, e)
		}
		count = min(count, most-at)
		deleted, e := tuplet.Delete(l, most, at, count)
		want = mapped(l, most, func(event int) int {
			switch {
			case event >= at+count:
				return event - count
			case event >= at:
				return -1
			}
			return event
		})
		if e != api.OK || !tuplet.Equal(deleted, want) || tuplet.Check(deleted, most-count) != api.OK {
			t.Fatalf("Delete(%v, %d, %d, %d) = %v, error %d; want %v", l, most, at, count, deleted, e, want)
		}
	})
}
