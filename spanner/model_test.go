package spanner_test

import (
	"math/rand"
	"slices"

	"hemiola/api"
	"hemiola/spanner"
)

// at returns a place of the staff 0 and the voice 0.
func at(measure, tick int) spanner.Place { return spanner.Place{Measure: measure, At: tick} }

// span returns a span from the beginning of a measure to that of another one, in the staff 0 and the voice 0.
func span(kind, from, to int) spanner.Span {
	return spanner.Span{Kind: kind, From: at(from, 0), To: at(to, 0)}
}

// moved returns a span in another staff and voice.
func moved(s spanner.Span, staff, voice int) spanner.Span {
	s.From.Staff, s.From.Voice, s.To.Staff, s.To.Voice = staff, voice, staff, voice
	return s
}

// follows reports whether a place follows another one.
func follows(a, b spanner.Place) bool {
	return a.Measure > b.Measure || a.Measure == b.Measure && a.At > b.At
}

func precedes(a, b spanner.Place) bool { return follows(b, a) }

func apart(a, b spanner.Span) bool { return !follows(a.To, b.From) || !follows(b.To, a.From) }

func strictlyApart(a, b spanner.Span) bool { return precedes(a.To, b.From) || precedes(b.To, a.From) }

func liesWithin(a, b spanner.Span) bool { return !precedes(a.From, b.From) && !follows(a.To, b.To) }

// sameGroup reports whether two spans are of the same group.
func sameGroup(a, b spanner.Span) bool {
	both := func(kinds ...int) bool { return slices.Contains(kinds, a.Kind) && slices.Contains(kinds, b.Kind) }
	sameStaff := a.From.Staff == b.From.Staff
	sameVoice := sameStaff && a.From.Voice == b.From.Voice
	return both(1) && sameVoice || both(2, 3) && sameStaff || both(4, 5) && sameStaff || both(6) && sameStaff || both(7) && sameVoice
}

// conflictOf reports whether two spans exclude one another as the chapter says.
func conflictOf(a, b spanner.Span) bool {
	if !sameGroup(a, b) {
		return false
	}
	switch a.Kind {
	case 1:
		ab, ba := liesWithin(a, b), liesWithin(b, a)
		return !apart(a, b) && (!ab && !ba || ab && ba)
	case 2, 3, 6:
		return !apart(a, b)
	}
	return !strictlyApart(a, b)
}

// properOf returns the first error of a span as the chapter says.
func properOf(s spanner.Span) api.Errno {
	if s.Kind < 1 || s.Kind > 7 {
		return api.ErrKind
	}
	for _, p := range []spanner.Place{s.From, s.To} {
		if p.Measure < 0 || p.Measure > 1023 || p.At < 0 || p.At > 1<<42 || p.Staff < 0 || p.Staff > 127 || p.Voice < 0 || p.Voice > 1 {
			return api.ErrRange
		}
	}
	if s.From.Staff != s.To.Staff || (s.Kind == 1 || s.Kind == 7) && s.From.Voice != s.To.Voice {
		return api.ErrSpanner
	}
	if !precedes(s.From, s.To) {
		return api.ErrOrder
	}
	return api.OK
}

// checkOf returns the result of Check of at most api.MaxSpanners spans: it compares all of them.
func checkOf(l []spanner.Span) (int, api.Errno) {
	for i, s := range l {
		if e := properOf(s); e != api.OK {
			return i, e
		}
		for _, earlier := range l[:i] {
			if conflictOf(earlier, s) {
				return i, api.ErrOverlap
			}
		}
	}
	return -1, api.OK
}

// levelOf returns the level of a span: it tries all slurs that may be the next one within it.
func levelOf(l []spanner.Span, s spanner.Span) int {
	level := 0
	for _, inner := range l {
		if s.Kind == 1 && sameGroup(inner, s) && liesWithin(inner, s) && !liesWithin(s, inner) {
			level = max(level, 1+levelOf(l, inner))
		}
	}
	return level
}

// coversOf reports whether a span covers a place.
func coversOf(s spanner.Span, p spanner.Place) bool {
	return s.From.Staff == p.Staff && (s.Kind != 1 && s.Kind != 7 || s.From.Voice == p.Voice) && !precedes(p, s.From) && !precedes(s.To, p)
}

// dividedOf returns the pieces of a proper span: it looks at each measure alone.
func dividedOf(s spanner.Span, systems []int) []spanner.Piece {
	pieces := map[int]*spanner.Piece{}
	var order []int
	for m := s.From.Measure; m <= s.To.Measure; m++ {
		system := 0
		for k, first := range systems {
			if first <= m {
				system = k
			}
		}
		if pieces[system] == nil {
			pieces[system] = &spanner.Piece{System: system, First: m}
			order = append(order, system)
		}
		p := pieces[system]
		p.Last = m
		p.Begins = p.Begins || m == s.From.Measure
		p.Ends = p.Ends || m == s.To.Measure
	}
	var out []spanner.Piece
	for _, system := range order {
		out = append(out, *pieces[system])
	}
	return out
}

// someSpans returns spans at random, of few kinds, staves and voices, so that many of them exclude one another. Some lists contain spans that are not proper.
func someSpans(r *rand.Rand, count int) []spanner.Span {
	kinds := [][]int{{1}, {1}, {1, 7}, {2, 3}, {4, 5}, {6}, {7}, {1, 2, 3, 4, 5, 6, 7}}[r.Intn(8)]
	measures, spoilt := 1+r.Intn(12), r.Intn(3) == 0
	var l []spanner.Span
	for range count {
		s := span(kinds[r.Intn(len(kinds))], r.Intn(measures), r.Intn(measures))
		s.From.At, s.To.At = r.Intn(3), r.Intn(3)
		if spanner.Compare(s.From, s.To) > 0 && !spoilt {
			s.From, s.To = s.To, s.From
		}
		if s.From == s.To && !spoilt {
			s.To.At++
		}
		s = moved(s, r.Intn(2), r.Intn(2))
		if spoilt && r.Intn(4) == 0 {
			spoil(r, &s)
		}
		l = append(l, s)
	}
	return l
}

// spoil changes a field of a span.
func spoil(r *rand.Rand, s *spanner.Span) {
	p := &s.From
	if r.Intn(2) == 0 {
		p = &s.To
	}
	switch r.Intn(6) {
	case 0:
		s.Kind = r.Intn(11) - 1
	case 1:
		p.Measure = []int{-1, 1023, 1024}[r.Intn(3)]
	case 2:
		p.At = []int{-1, 1 << 42, 1<<42 + 1}[r.Intn(3)]
	case 3:
		p.Staff = []int{-1, 0, 1, 127, 128}[r.Intn(5)]
	case 4:
		p.Voice = []int{-1, 0, 1, 2}[r.Intn(4)]
	case 5:
		s.From, s.To = s.To, s.From
	}
}
