package spanner_test

import (
	"math"
	"math/rand"
	"slices"
	"testing"

	"hemiola/api"
	"hemiola/spanner"
)

func TestP14_4Shift(t *testing.T) {
	up, down := span(4, 1, 3), span(5, 2, 4)
	for i, c := range []struct {
		l    []spanner.Span
		p    spanner.Place
		want int
	}{
		{nil, at(0, 0), 0}, {[]spanner.Span{up}, at(1, 0), -7}, {[]spanner.Span{up}, at(3, 0), -7}, {[]spanner.Span{up}, at(2, 99), -7}, {[]spanner.Span{up}, at(3, 1), 0}, {[]spanner.Span{up}, at(0, 99), 0}, {[]spanner.Span{down}, at(2, 0), 7}, {[]spanner.Span{down}, at(4, 0), 7}, {[]spanner.Span{down}, at(1, 0), 0},
		// Only the first line that covers the place matters.
		{[]spanner.Span{up, down}, at(2, 0), -7}, {[]spanner.Span{down, up}, at(2, 0), 7}, {[]spanner.Span{down, up}, at(1, 0), -7}, {[]spanner.Span{up, down}, at(4, 0), 7},
		// The line belongs to its staff, in both voices.
		{[]spanner.Span{up}, spanner.Place{Measure: 2, Voice: 1}, -7}, {[]spanner.Span{up}, spanner.Place{Measure: 2, Staff: 1}, 0}, {[]spanner.Span{moved(up, 1, 0), down}, at(2, 0), 7}, {[]spanner.Span{moved(up, 1, 0), down}, spanner.Place{Measure: 2, Staff: 1, Voice: 1}, -7},
		{[]spanner.Span{span(1, 0, 9), span(2, 0, 9), span(3, 0, 9), span(6, 0, 9), span(7, 0, 9), span(0, 0, 9), span(8, 0, 9)}, at(2, 0), 0}, {[]spanner.Span{span(1, 0, 9), span(7, 0, 9), down}, at(2, 0), 7},
	} {
		if got := spanner.Shift(c.l, c.p); got != c.want {
			t.Errorf("%d: Shift(%v, %v) = %d; want %d", i, c.l, c.p, got, c.want)
		}
	}
}

func TestP14_4Covering(t *testing.T) {
	l := []spanner.Span{span(1, 0, 2), span(1, 1, 3), moved(span(1, 0, 9), 0, 1), span(2, 0, 2), span(3, 0, 2), span(7, 0, 2), span(6, 2, 1), span(9, 0, 2), moved(span(2, 1, 2), 0, 1), span(1, 2, 4)}
	for i, c := range []struct {
		kind int
		p    spanner.Place
		want []int
	}{
		{1, at(2, 0), []int{0, 1, 9}}, {1, at(0, 0), []int{0}}, {1, at(2, 1), []int{1, 9}}, {1, spanner.Place{Measure: 2, Voice: 1}, []int{2}}, {1, spanner.Place{Measure: 2, Staff: 1}, nil}, {2, at(1, 0), []int{3, 8}}, {2, spanner.Place{Measure: 1, Voice: 1}, []int{3, 8}}, {2, spanner.Place{Measure: 1, Staff: 1}, nil}, {3, at(1, 0), []int{4}}, {7, at(1, 0), []int{5}}, {7, spanner.Place{Measure: 1, Voice: 1}, nil}, {7, spanner.Place{Measure: 1, Staff: 1}, nil},
		{6, at(1, 0), nil}, {6, at(2, 0), nil}, {9, at(1, 0), []int{7}}, {9, at(3, 0), nil}, {0, at(1, 0), nil}, {5, at(1, 0), nil},
	} {
		if got := spanner.Covering(l, c.kind, c.p); !slices.Equal(got, c.want) {
			t.Errorf("%d: Covering(%d, %v) = %v; want %v", i, c.kind, c.p, got, c.want)
		}
	}
}

func TestP14_4Crossing(t *testing.T) {
	l := []spanner.Span{span(1, 0, 2), span(2, 2, 3), moved(span(7, 1, 5), 9, 1), span(6, 3, 1), span(0, 5, 5), {Kind: 1, From: at(4, 7), To: at(4, 9)}}
	for measure, want := range [][]int{{0}, {0, 2}, {0, 1, 2}, {1, 2}, {2, 5}, {2, 4}, nil} {
		if got := spanner.Crossing(l, measure); !slices.Equal(got, want) {
			t.Errorf("Crossing(%d) = %v; want %v", measure, got, want)
		}
	}
	if got := spanner.Crossing(l, -1); len(got) > 0 {
		t.Errorf("Crossing(-1) = %v", got)
	}
	if got := spanner.Crossing([]spanner.Span{span(1, math.MinInt, math.MaxInt)}, math.MinInt); !slices.Equal(got, []int{0}) {
		t.Errorf("Crossing of the first measure of all = %v", got)
	}
}

func TestP14_4AtRandom(t *testing.T) {
	r := rand.New(rand.NewSource(18))
	shifts := map[int]int{}
	for range 4000 {
		l := someSpans(r, r.Intn(8))
		kept := slices.Clone(l)
		p := spanner.Place{Measure: r.Intn(10), At: r.Intn(3), Staff: r.Intn(2), Voice: r.Intn(2)}
		kind := r.Intn(9)
		var covering, crossing []int
		shift := 0
		for i, s := range l {
			if coversOf(s, p) && s.Kind == kind {
				covering = append(covering, i)
			}
			if coversOf(s, p) && shift == 0 {
				shift = map[int]int{4: -7, 5: 7}[s.Kind]
			}
			if p.Measure >= s.From.Measure && p.Measure <= s.To.Measure {
				crossing = append(crossing, i)
			}
		}
		if got := spanner.Covering(l, kind, p); !slices.Equal(got, covering) {
			t.Fatalf("Covering(%v, %d, %v) = %v; want %v", l, kind, p, got, covering)
		}
		if got := spanner.Crossing(l, p.Measure); !slices.Equal(got, crossing) {
			t.Fatalf("Crossing(%v, %d) = %v; want %v", l, p.Measure, got, crossing)
		}
		if got := spanner.Shift(l, p); got != shift || !slices.Equal(l, kept) {
			t.Fatalf("Shift(%v, %v) = %d; want %d", kept, p, got, shift)
		}
		shifts[shift]++
	}
	if shifts[7] < 50 || shifts[-7] < 50 || shifts[0] < 50 {
		t.Errorf("the shifts were %v", shifts)
	}
}

func TestP14_5Divide(t *testing.T) {
	for i, c := range []struct {
		s       spanner.Span
		systems []int
		want    []spanner.Piece
		e       api.Errno
	}{
		{span(1, 1, 5), []int{0, 2, 5}, []spanner.Piece{{0, 1, 1, true, false}, {1, 2, 4, false, false}, {2, 5, 5, false, true}}, api.OK}, {span(1, 1, 5), []int{0}, []spanner.Piece{{0, 1, 5, true, true}}, api.OK}, {span(1, 1, 5), []int{1, 6}, []spanner.Piece{{0, 1, 5, true, true}}, api.OK}, {span(1, 1, 5), []int{0, 1, 5, 9}, []spanner.Piece{{1, 1, 4, true, false}, {2, 5, 5, false, true}}, api.OK}, {span(2, 4, 6), []int{0, 2, 3}, []spanner.Piece{{2, 4, 6, true, true}}, api.OK},
		{spanner.Span{Kind: 6, From: at(2, 3), To: at(2, 4)}, []int{0, 2, 3}, []spanner.Piece{{1, 2, 2, true, true}}, api.OK}, {span(1, 0, 1023), []int{math.MinInt, math.MinInt + 1, 1023, math.MaxInt}, []spanner.Piece{{1, 0, 1022, true, false}, {2, 1023, 1023, false, true}}, api.OK}, {span(1, 0, 1), []int{-5, -1, 1}, []spanner.Piece{{1, 0, 0, true, false}, {2, 1, 1, false, true}}, api.OK},
		{span(1, 0, 1), []int{math.MinInt, math.MaxInt}, []spanner.Piece{{0, 0, 1, true, true}}, api.OK},
		{span(1, 1, 5), nil, nil, api.ErrShort}, {span(1, 1, 5), []int{}, nil, api.ErrShort}, {span(1, 1, 5), []int{0, 0}, nil, api.ErrOrder}, {span(1, 1, 5), []int{0, 3, 2}, nil, api.ErrOrder}, {span(1, 1, 5), []int{0, 9, 9}, nil, api.ErrOrder}, {span(1, 1, 5), []int{2}, nil, api.ErrRange}, {span(1, 1, 5), []int{math.MaxInt}, nil, api.ErrRange},
		// Of several errors, the first one.
		{span(0, 1, 5), nil, nil, api.ErrKind}, {span(1, 5, 1), nil, nil, api.ErrOrder}, {span(1, -1, 1), []int{2, 2}, nil, api.ErrRange}, {moved(span(1, 1, 2), 128, 0), []int{0}, nil, api.ErrRange}, {span(1, 1, 5), []int{2, 2}, nil, api.ErrOrder}, {changed(span(1, 1, 5), func(s *spanner.Span) { s.To.Staff = 1 }), []int{2, 1}, nil, api.ErrSpanner},
	} {
		if got, e := spanner.Divide(c.s, c.systems); !slices.Equal(got, c.want) || e != c.e {
			t.Errorf("%d: Divide(%v, %v) = %v, error %d; want %v, error %d", i, c.s, c.systems, got, e, c.want, c.e)
		}
	}
}

func TestP14_5DivideAtRandom(t *testing.T) {
	r := rand.New(rand.NewSource(19))
	for range 4000 {
		from := r.Intn(20)
		s := span(1+r.Intn(7), from, from+r.Intn(10))
		s.To.At = 1
		systems := []int{r.Intn(from + 1)}
		for range r.Intn(8) {
			systems = append(systems, systems[len(systems)-1]+1+r.Intn(5))
		}
		kept := slices.Clone(systems)
		got, e := spanner.Divide(s, systems)
		if want := dividedOf(s, systems); !slices.Equal(got, want) || e != api.OK || !slices.Equal(systems, kept) {
			t.Fatalf("Divide(%v, %v) = %v, error %d; want %v", s, kept, got, e, want)
		}
	}
}

// TestP14_7Pieces tests that the pieces are in different systems, and that their measures are those that the span crosses, each once.
func TestP14_7Pieces(t *testing.T) {
	s := span(1, 3, 40)
	for k := range 30 {
		systems := []int{k % 4}
		for i := 1; i < k; i++ {
			systems = append(systems, systems[i-1]+1+(i*k)%3)
		}
		got, e := spanner.Divide(s, systems)
		if e != api.OK {
			t.Fatalf("Divide(%v): error %d", systems, e)
		}
		next, system := 3, -1
		for _, p := range got {
			if p.System <= system || p.First != next || p.Last < p.First {
				t.Fatalf("Divide(%v) = %v", systems, got)
			}
			next, system = p.Last+1, p.System
		}
		if next != 41 {
			t.Fatalf("Divide(%v) = %v", systems, got)
		}
	}
}
