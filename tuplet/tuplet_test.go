package tuplet_test

import (
	"math"
	"math/rand"
	"slices"
	"testing"

	"hemiola/api"
	"hemiola/tuplet"
)

type list = []api.Tuplet

// tup makes a triplet with a place.
func tup(first, count int) api.Tuplet {
	return api.Tuplet{First: first, Count: count, Actual: 3, Normal: 2}
}

// events returns the events that a tuplet contains, up to a number.
func events(t api.Tuplet, most int) []int {
	var l []int
	for e := range most {
		if e >= t.First && e-t.First < t.Count {
			l = append(l, e)
		}
	}
	return l
}

// within reports whether each number of a is one of b.
func within(a, b []int) bool {
	return !slices.ContainsFunc(a, func(x int) bool { return !slices.Contains(b, x) })
}

// checked follows the words of the document: it looks at each event of each tuplet.
func checked(l list, most int) api.Errno {
	if most < 0 || most > 128 {
		return api.ErrRange
	}
	if len(l) > 16 {
		return api.ErrLimit
	}
	depth := make([]int, most)
	for i, t := range l {
		mine := events(t, most)
		if t.Count < 1 || len(mine) != t.Count || t.First != mine[0] || t.Actual < 1 || t.Actual > 32 || t.Normal < 1 || t.Normal > 32 || t.Actual == t.Normal {
			return api.ErrRange
		}
		if i > 0 && (t.First < l[i-1].First || t.First == l[i-1].First && t.Count > l[i-1].Count) {
			return api.ErrOrder
		}
		for _, u := range l[:i] {
			common := slices.ContainsFunc(mine, func(e int) bool { return slices.Contains(events(u, most), e) })
			if common && !within(mine, events(u, most)) {
				return api.ErrTuplet
			}
		}
		for _, e := range mine {
			if depth[e]++; depth[e] > 3 {
				return api.ErrTuplet
			}
		}
	}
	return api.OK
}

// sample returns tuplets of a few events, most of them proper.
func sample(r *rand.Rand, most int) list {
	var l list
	for range r.Intn(7) {
		t := api.Tuplet{First: r.Intn(most), Count: 1 + r.Intn(most), Actual: 1 + r.Intn(7), Normal: 1 + r.Intn(7)}
		if r.Intn(4) > 0 {
			t.Count = min(t.Count, most-t.First)
		}
		if t.Actual == t.Normal && r.Intn(4) > 0 {
			t.Normal++
		}
		l = append(l, t)
	}
	if r.Intn(4) > 0 {
		l = tuplet.Canonical(l)
	}
	return l
}

// proper returns many lists that Check accepts, with their numbers of events.
func proper(t *testing.T, test func(r *rand.Rand, l list, most int)) {
	t.Helper()
	r := rand.New(rand.NewSource(3))
	for found := 0; found < 3000; {
		most := 1 + r.Intn(9)
		if l := sample(r, most); tuplet.Check(l, most) == api.OK {
			found++
			test(r, l, most)
		}
	}
}

func TestP3_1Check(t *testing.T) {
	full := make(list, 17)
	for i := range full {
		full[i] = tup(2*i, 2)
	}
	a, b := api.Tuplet{Count: 1, Actual: 1, Normal: 32}, api.Tuplet{Count: 1, Actual: 32, Normal: 1}
	for i, c := range []struct {
		l      list
		events int
		e      api.Errno
	}{
		{nil, 0, api.OK}, {nil, 128, api.OK}, {list{a}, 1, api.OK}, {list{b}, 1, api.OK}, {list{tup(0, 128)}, 128, api.OK},
		{nil, -1, api.ErrRange}, {nil, 129, api.ErrRange}, {full, 129, api.ErrRange}, {full, math.MinInt, api.ErrRange},
		{full, 34, api.ErrLimit}, {full[:16], 32, api.OK}, {full[:16], 31, api.ErrRange}, {make(list, 17), 0, api.ErrLimit},
		{list{{}}, 3, api.ErrRange}, {list{tup(0, 0)}, 3, api.ErrRange}, {list{tup(0, -1)}, 3, api.ErrRange}, {list{tup(-1, 2)}, 3, api.ErrRange},
		{list{tup(0, 4)}, 3, api.ErrRange}, {list{tup(3, 1)}, 3, api.ErrRange}, {list{tup(2, 2)}, 3, api.ErrRange}, {list{tup(0, 1)}, 0, api.ErrRange},
		{list{tup(math.MaxInt, math.MaxInt)}, 3, api.ErrRange}, {list{tup(1, math.MaxInt)}, 3, api.ErrRange}, {list{tup(math.MaxInt, 1)}, 3, api.ErrRange}, {list{tup(math.MinInt, math.MinInt)}, 3, api.ErrRange}, {list{tup(math.MinInt, math.MaxInt)}, 3, api.ErrRange},
		{list{{Count: 1, Actual: 0, Normal: 2}}, 1, api.ErrRange}, {list{{Count: 1, Actual: 33, Normal: 2}}, 1, api.ErrRange}, {list{{Count: 1, Actual: 3, Normal: 0}}, 1, api.ErrRange}, {list{{Count: 1, Actual: 3, Normal: 33}}, 1, api.ErrRange}, {list{{Count: 1, Actual: 3, Normal: 3}}, 1, api.ErrRange},
		{list{tup(1, 1), tup(0, 2)}, 3, api.ErrOrder}, {list{tup(1, 1), tup(0, 1)}, 3, api.ErrOrder}, {list{tup(0, 1), tup(0, 2)}, 3, api.ErrOrder},
		{list{tup(0, 2), tup(1, 2)}, 3, api.ErrTuplet}, {list{tup(0, 4), tup(1, 2), tup(2, 2)}, 4, api.ErrTuplet}, {list{tup(0, 3), tup(0, 1), tup(1, 3)}, 4, api.ErrTuplet},
		{list{tup(0, 2), tup(0, 2), tup(0, 2)}, 2, api.OK}, {list{tup(0, 2), tup(0, 2), tup(0, 2), tup(1, 1)}, 2, api.ErrTuplet}, {list{tup(0, 2), tup(0, 2), tup(0, 1), tup(1, 1)}, 2, api.OK}, {list{tup(0, 2), tup(2, 2)}, 4, api.OK},
		// Of several errors, the first tuplet's is returned, and for one tuplet the one that is named first.
		{list{tup(0, 2), tup(1, 2), tup(0, 1)}, 3, api.ErrTuplet}, {list{tup(1, 1), tup(0, 2), tup(0, 9)}, 3, api.ErrOrder}, {list{tup(0, 2), tup(1, 9)}, 3, api.ErrRange}, {list{tup(1, 2), tup(0, 9)}, 3, api.ErrRange}, {list{tup(1, 2), tup(0, 2)}, 3, api.ErrOrder},
	} {
		if e := tuplet.Check(c.l, c.events); e != c.e {
			t.Errorf("%d: Check(%v, %d): error %d; want %d", i, c.l, c.events, e, c.e)
		}
	}
}

func TestP3_1CheckAtRandom(t *testing.T) {
	r := rand.New(rand.NewSource(1))
	found := map[api.Errno]int{}
	for range 60000 {
		most := 1 + r.Intn(9)
		l := sample(r, most)
		e := tuplet.Check(l, most)
		if want := checked(l, most); e != want {
			t.Fatalf("Check(%v, %d): error %d; want %d", l, most, e, want)
		}
		found[e]++
	}
	for _, e := range []api.Errno{api.OK, api.ErrRange, api.ErrOrder, api.ErrTuplet} {
		if found[e] < 1000 {
			t.Errorf("error %d was tested only %d times", e, found[e])
		}
	}
}

func TestP3_1Canonical(t *testing.T) {
	l := list{{First: 4, Count: 2, Actual: 3, Normal: 2}, {Count: 2, Actual: 5, Normal: 4}, {Count: 5, Actual: 3, Normal: 2}, {Count: 2, Actual: 3, Normal: 2}, {First: math.MinInt, Count: math.MinInt}, {First: math.MinInt, Count: math.MaxInt}}
	before := slices.Clone(l)
	want := list{l[5], l[4], l[2], l[1], l[3], l[0]}
	got := tuplet.Canonical(l)
	if !slices.Equal(got, want) {
		t.Errorf("Canonical = %v", got)
	}
	got[0].First = 77
	if !slices.Equal(l, before) {
		t.Error("Canonical changes or returns its argument")
	}
	if len(tuplet.Canonical(nil)) != 0 {
		t.Error("Canonical of nothing")
	}
	var same list
	for i := range 40 {
		same = append(same, api.Tuplet{First: i % 2, Count: 3, Actual: i})
	}
	for i, u := range tuplet.Canonical(same) {
		if u.Actual != i%20*2+i/20 {
			t.Fatalf("Canonical does not keep the order of the list: %v", u)
		}
	}
}

func TestP3_1Equal(t *testing.T) {
	for _, c := range []struct {
		a, b list
		want bool
	}{
		{nil, nil, true}, {nil, list{}, true}, {list{{}}, nil, false}, {list{tup(0, 2)}, list{tup(0, 2)}, true}, {list{tup(0, 2), tup(1, 1)}, list{tup(1, 1), tup(0, 2)}, false}, {list{tup(0, 2)}, list{tup(0, 2), tup(0, 2)}, false},
		{list{{First: 1}}, list{{}}, false}, {list{{Count: 1}}, list{{}}, false}, {list{{Actual: 1}}, list{{}}, false}, {list{{Normal: 1}}, list{{}}, false},
	} {
		if tuplet.Equal(c.a, c.b) != c.want || tuplet.Equal(c.b, c.a) != c.want {
			t.Errorf("Equal(%v, %v) is not %t", c.a, c.b, c.want)
		}
	}
}

func TestP3_4Tree(t *testing.T) {
	l := list{tup(0, 5), tup(1, 3), tup(1, 1), tup(3, 1), tup(4, 1), tup(6, 2), tup(6, 2)}
	if tree, e := tuplet.Tree(l, 8); e != api.OK || !slices.Equal(tree, []int{-1, 0, 1, 1, 0, -1, 5}) {
		t.Errorf("Tree = %v, error %d", tree, e)
	}
	if tree, e := tuplet.Tree(l, 7); len(tree) != 0 || e != api.ErrRange {
		t.Errorf("Tree = %v, error %d", tree, e)
	}
	proper(t, func(_ *rand.Rand, l list, most int) {
		tree, e := tuplet.Tree(l, most)
		if e != api.OK || len(tree) != len(l) {
			t.Fatalf("Tree(%v) = %v, error %d", l, tree, e)
		}
		for i, u := range l {
			want := -1
			for j, o := range l[:i] {
				if within(events(u, most), events(o, most)) {
					want = j
				}
			}
			if tree[i] != want {
				t.Fatalf("Tree(%v) = %v; want %d at %d", l, tree, want, i)
			}
		}
	})
}
