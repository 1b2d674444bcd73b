package spanner_test

import (
	"math/rand"
	"slices"
	"testing"

	"hemiola/api"
	"hemiola/spanner"
)

// all calls a function with all spans of a kind whose ends are at four places, in two staves and voices; many are not proper.
func all(kind int, visit func(s spanner.Span)) {
	for i := range 64 {
		from, to := at(i%2, i/2%2), at(i/4%2, i/8%2)
		from.Staff, from.Voice = i/16%2, i/32
		for _, staff := range []int{from.Staff, 1} {
			to.Staff, to.Voice = staff, from.Voice
			visit(spanner.Span{Kind: kind, From: from, To: to})
		}
		to.Voice = 1 - from.Voice
		visit(spanner.Span{Kind: kind, From: from, To: to})
	}
}

func TestP14_2Conflict(t *testing.T) {
	for i, c := range []struct {
		a, b spanner.Span
		want bool
	}{
		{span(1, 0, 2), span(1, 2, 3), false}, {span(1, 0, 2), span(1, 1, 3), true}, {span(1, 0, 3), span(1, 1, 2), false}, {span(1, 0, 3), span(1, 0, 2), false}, {span(1, 0, 3), span(1, 2, 3), false}, {span(1, 0, 3), span(1, 0, 3), true}, {span(1, 0, 1), span(1, 2, 3), false}, {span(1, 0, 2), moved(span(1, 1, 3), 0, 1), false}, {span(1, 0, 2), moved(span(1, 1, 3), 1, 0), false},
		{span(2, 0, 2), span(3, 2, 3), false}, {span(2, 0, 2), span(3, 1, 3), true}, {span(2, 0, 3), span(2, 1, 2), true}, {span(3, 0, 3), span(3, 0, 3), true}, {span(2, 0, 2), moved(span(3, 1, 3), 0, 1), true}, {span(2, 0, 2), moved(span(3, 1, 3), 1, 0), false},
		{span(4, 0, 2), span(5, 2, 3), true}, {span(4, 0, 2), span(4, 3, 4), false}, {span(5, 0, 2), moved(span(4, 2, 3), 0, 1), true}, {span(5, 0, 3), span(5, 1, 2), true}, {span(4, 0, 2), moved(span(5, 1, 3), 1, 0), false},
		{span(6, 0, 2), span(6, 2, 3), false}, {span(6, 0, 2), span(6, 1, 3), true}, {span(6, 0, 2), moved(span(6, 1, 3), 0, 1), true}, {span(6, 0, 2), moved(span(6, 1, 3), 1, 0), false},
		{span(7, 0, 2), span(7, 2, 3), true}, {span(7, 0, 2), span(7, 3, 4), false}, {span(7, 0, 2), moved(span(7, 1, 3), 0, 1), false}, {span(7, 0, 2), moved(span(7, 1, 3), 1, 0), false},
		{span(1, 0, 2), span(7, 0, 2), false}, {span(2, 0, 2), span(6, 0, 2), false}, {span(4, 0, 2), span(6, 0, 2), false}, {span(3, 0, 2), span(4, 0, 2), false},
		{span(0, 0, 2), span(0, 0, 2), false}, {span(8, 0, 2), span(8, 0, 2), false}, {span(-1, 0, 2), span(-1, 0, 2), false}, {span(1, 0, 2), span(0, 0, 2), false},
	} {
		if got := spanner.Conflict(c.a, c.b); got != c.want {
			t.Errorf("%d: Conflict(%v, %v) = %t", i, c.a, c.b, got)
		}
		if got := spanner.Conflict(c.b, c.a); got != c.want {
			t.Errorf("%d: Conflict(%v, %v) = %t", i, c.b, c.a, got)
		}
	}
}

func TestP14_2ConflictOfAll(t *testing.T) {
	for kind := range 9 {
		for other := range 9 {
			all(kind, func(a spanner.Span) {
				all(other, func(b spanner.Span) {
					if got := spanner.Conflict(a, b); got != conflictOf(a, b) {
						t.Fatalf("Conflict(%v, %v) = %t", a, b, got)
					}
				})
			})
		}
	}
}

func TestP14_2Check(t *testing.T) {
	wrong := span(1, 2, 1)
	for i, c := range []struct {
		l     []spanner.Span
		index int
		e     api.Errno
	}{
		{nil, -1, api.OK}, {[]spanner.Span{}, -1, api.OK}, {[]spanner.Span{span(1, 0, 2), span(1, 2, 3)}, -1, api.OK}, {[]spanner.Span{span(1, 0, 2), span(1, 2, 3), span(1, 1, 3)}, 2, api.ErrOverlap}, {[]spanner.Span{span(1, 0, 2), span(1, 1, 3), span(1, 2, 3)}, 1, api.ErrOverlap},
		{[]spanner.Span{span(0, 0, 2)}, 0, api.ErrKind}, {[]spanner.Span{span(1, 0, 2), span(2, 0, 2), wrong}, 2, api.ErrOrder}, {[]spanner.Span{span(1, 0, 2), span(1, 1, 3), wrong}, 1, api.ErrOverlap}, {[]spanner.Span{span(1, 0, 2), wrong, span(1, 1, 3)}, 1, api.ErrOrder},
		// A span that is not proper and excludes an earlier one has the error of Proper.
		{[]spanner.Span{span(7, 0, 3), span(7, 2, 2)}, 1, api.ErrOrder}, {[]spanner.Span{span(4, 0, 3), span(5, 0, 1024)}, 1, api.ErrRange}, {[]spanner.Span{span(2, 0, 3), {Kind: 2, From: at(0, 0), To: spanner.Place{Measure: 3, Staff: 1}}}, 1, api.ErrSpanner},
		{[]spanner.Span{span(2, 0, 3), span(4, 0, 3), span(6, 0, 3), span(7, 0, 3), span(1, 0, 3), moved(span(7, 0, 3), 0, 1), moved(span(3, 0, 3), 0, 1)}, 6, api.ErrOverlap},
	} {
		if index, e := spanner.Check(c.l); index != c.index || e != c.e {
			t.Errorf("%d: Check(%v) = %d, error %d; want %d, error %d", i, c.l, index, e, c.index, c.e)
		}
	}
}

func TestP14_2Limit(t *testing.T) {
	var l []spanner.Span
	for i := range 4096 {
		s := span(1, i%1000, i%1000+1)
		s.From.At, s.To.At = i/1000, i/1000
		l = append(l, moved(s, i/1000, 0))
	}
	if index, e := spanner.Check(l); index != -1 || e != api.OK {
		t.Errorf("Check of 4096 spans: %d, error %d", index, e)
	}
	l[4095] = l[4094]
	if index, e := spanner.Check(l); index != 4095 || e != api.ErrOverlap {
		t.Errorf("Check of 4096 spans, the last two of which are the same: %d, error %d", index, e)
	}
	l[0].Kind = 0
	if index, e := spanner.Check(append(l, span(1, 0, 1))); index != 4096 || e != api.ErrLimit {
		t.Errorf("Check of 4097 spans: %d, error %d", index, e)
	}
}

func TestP14_2CheckAtRandom(t *testing.T) {
	r := rand.New(rand.NewSource(15))
	found := map[api.Errno]int{}
	for range 12000 {
		l := someSpans(r, r.Intn(8))
		kept := slices.Clone(l)
		index, e := spanner.Check(l)
		if want, f := checkOf(l); index != want || e != f {
			t.Fatalf("Check(%v) = %d, error %d; want %d, error %d", l, index, e, want, f)
		}
		if !slices.Equal(l, kept) {
			t.Fatalf("Check changed %v to %v", kept, l)
		}
		found[e]++
	}
	for _, e := range []api.Errno{api.OK, api.ErrKind, api.ErrRange, api.ErrSpanner, api.ErrOrder, api.ErrOverlap} {
		if found[e] < 50 {
			t.Errorf("the error %d was tested only %d times", e, found[e])
		}
	}
}

func TestP14_3Levels(t *testing.T) {
	for i, c := range []struct {
		l    []spanner.Span
		want []int
	}{
		{nil, nil}, {[]spanner.Span{span(1, 0, 3)}, []int{0}}, {[]spanner.Span{span(1, 0, 3), span(1, 1, 2)}, []int{1, 0}}, {[]spanner.Span{span(1, 1, 2), span(1, 0, 3)}, []int{0, 1}},
		{[]spanner.Span{span(1, 0, 9), span(1, 1, 8), span(1, 2, 3), span(1, 4, 7), span(1, 5, 6)}, []int{3, 2, 0, 1, 0}},
		// Slurs with a common end are nested, but not two with the same ends.
		{[]spanner.Span{span(1, 0, 3), span(1, 0, 2), span(1, 0, 1)}, []int{2, 1, 0}}, {[]spanner.Span{span(1, 0, 3), span(1, 0, 3)}, []int{0, 0}}, {[]spanner.Span{span(1, 0, 3), span(1, 0, 3), span(1, 2, 3)}, []int{1, 1, 0}}, {[]spanner.Span{span(1, 0, 4), span(1, 1, 3), span(1, 1, 3)}, []int{1, 0, 0}},
		// Slurs that overlap only, and other spans, do not count.
		{[]spanner.Span{span(1, 0, 2), span(1, 1, 3)}, []int{0, 0}}, {[]spanner.Span{span(1, 0, 3), span(2, 1, 2), span(7, 1, 2)}, []int{0, 0, 0}}, {[]spanner.Span{span(2, 0, 3), span(1, 1, 2), span(2, 1, 2)}, []int{0, 0, 0}}, {[]spanner.Span{span(7, 0, 3), span(7, 1, 2)}, []int{0, 0}}, {[]spanner.Span{span(0, 0, 3), span(0, 1, 2)}, []int{0, 0}},
		{[]spanner.Span{span(1, 0, 3), moved(span(1, 1, 2), 0, 1), moved(span(1, 1, 2), 1, 0)}, []int{0, 0, 0}}, {[]spanner.Span{moved(span(1, 0, 3), 2, 1), moved(span(1, 1, 2), 2, 1)}, []int{1, 0}},
	} {
		if got := spanner.Levels(c.l); !slices.Equal(got, c.want) {
			t.Errorf("%d: Levels(%v) = %v; want %v", i, c.l, got, c.want)
		}
	}
}

func TestP14_3LevelsAtRandom(t *testing.T) {
	r := rand.New(rand.NewSource(16))
	greatest := 0
	for range 2000 {
		l := someSpans(r, r.Intn(12))
		kept := slices.Clone(l)
		got := spanner.Levels(l)
		if len(got) != len(l) || !slices.Equal(l, kept) {
			t.Fatalf("Levels(%v) = %v", kept, got)
		}
		for i, s := range l {
			if want := levelOf(l, s); got[i] != want {
				t.Fatalf("Levels(%v)[%d] = %d; want %d", l, i, got[i], want)
			}
			greatest = max(greatest, got[i])
		}
	}
	if greatest < 4 {
		t.Errorf("the greatest level was %d", greatest)
	}
}

func TestP14_3ManyLevels(t *testing.T) {
	var l []spanner.Span
	for i := range 4096 {
		s := span(1, 0, 1000)
		s.From.At, s.To.At = i, 4096-i
		l = append(l, s)
	}
	for i, level := range spanner.Levels(l) {
		if level != 4095-i {
			t.Fatalf("the slur %d has the level %d", i, level)
		}
	}
}

func TestP14_7Consequences(t *testing.T) {
	r := rand.New(rand.NewSource(17))
	accepted := 0
	for range 6000 {
		l := someSpans(r, 2+r.Intn(6))
		_, e := spanner.Check(l)
		shuffled := slices.Clone(l)
		r.Shuffle(len(l), func(i, k int) { shuffled[i], shuffled[k] = shuffled[k], shuffled[i] })
		if _, f := spanner.Check(shuffled); (e == api.OK) != (f == api.OK) {
			t.Fatalf("Check(%v) returns the error %d, in another order %d", l, e, f)
		}
		if e == api.OK {
			accepted++
			testAccepted(t, l)
		}
		for _, a := range l {
			for _, b := range l {
				if spanner.Conflict(a, b) != spanner.Conflict(b, a) {
					t.Fatalf("Conflict of %v and %v is not symmetric", a, b)
				}
			}
		}
	}
	if accepted < 500 {
		t.Errorf("only %d lists were accepted", accepted)
	}
}

// testAccepted tests what holds for a list that Check accepts.
func testAccepted(t *testing.T, l []spanner.Span) {
	t.Helper()
	for _, a := range l {
		for _, b := range l {
			overlap := spanner.Compare(a.From, b.To) < 0 && spanner.Compare(b.From, a.To) < 0
			if sameGroup(a, b) && a.Kind == api.Slur && overlap && !liesWithin(a, b) && !liesWithin(b, a) {
				t.Fatalf("the slurs %v and %v overlap, but are not nested", a, b)
			}
		}
		for _, p := range []spanner.Place{a.From, a.To} {
			up, down := spanner.Covering(l, api.OctaveUp, p), spanner.Covering(l, api.OctaveDown, p)
			if len(up)+len(down) > 1 {
				t.Fatalf("more than one octave line of %v covers %v", l, p)
			}
		}
	}
}
