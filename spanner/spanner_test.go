package spanner_test

import (
	"math"
	"math/rand"
	"testing"

	"hemiola/api"
	"hemiola/spanner"
)

func TestP14_1Compare(t *testing.T) {
	for i, c := range []struct {
		a, b spanner.Place
		want int
	}{
		{at(0, 0), at(0, 0), 0}, {at(0, 0), at(0, 1), -1}, {at(0, 1), at(0, 0), 1}, {at(1, 0), at(0, 5), 1}, {at(0, 5), at(1, 0), -1}, {at(3, 7), at(3, 7), 0},
		// The staff and the voice do not matter.
		{spanner.Place{Measure: 1, At: 2, Staff: 9, Voice: 1}, at(1, 2), 0}, {spanner.Place{Staff: 9, Voice: 1}, at(0, 1), -1}, {at(0, 0), spanner.Place{Staff: -9, Voice: -1}, 0},
		// Places need not be in range.
		{at(math.MinInt, 0), at(math.MaxInt, 0), -1}, {at(math.MaxInt, 0), at(math.MinInt, 0), 1}, {at(0, math.MinInt), at(0, math.MaxInt), -1}, {at(-1, 0), at(0, 0), -1},
	} {
		if got := spanner.Compare(c.a, c.b); got != c.want {
			t.Errorf("%d: Compare(%v, %v) = %d; want %d", i, c.a, c.b, got, c.want)
		}
		if got := spanner.Compare(c.b, c.a); got != -c.want {
			t.Errorf("%d: Compare(%v, %v) = %d; want %d", i, c.b, c.a, got, -c.want)
		}
	}
}

// changed returns a span after a change.
func changed(s spanner.Span, change func(s *spanner.Span)) spanner.Span {
	change(&s)
	return s
}

func TestP14_1Proper(t *testing.T) {
	for kind := 1; kind <= 7; kind++ {
		good := span(kind, 3, 5)
		ofVoice := api.OK
		if kind == api.Slur || kind == api.TrillLine {
			ofVoice = api.ErrSpanner
		}
		for i, c := range []struct {
			change func(s *spanner.Span)
			e      api.Errno
		}{
			{func(s *spanner.Span) {}, api.OK},
			{func(s *spanner.Span) { s.From.Measure = 0 }, api.OK}, {func(s *spanner.Span) { s.From.Measure = -1 }, api.ErrRange}, {func(s *spanner.Span) { s.From.Measure = math.MinInt }, api.ErrRange}, {func(s *spanner.Span) { s.From.Measure = 1024 }, api.ErrRange},
			{func(s *spanner.Span) { s.To.Measure = 1023 }, api.OK}, {func(s *spanner.Span) { s.To.Measure = 1024 }, api.ErrRange}, {func(s *spanner.Span) { s.To.Measure = math.MaxInt }, api.ErrRange}, {func(s *spanner.Span) { s.To.Measure = -1 }, api.ErrRange},
			{func(s *spanner.Span) { s.From.At = 1 << 42 }, api.OK}, {func(s *spanner.Span) { s.From.At = 1<<42 + 1 }, api.ErrRange}, {func(s *spanner.Span) { s.From.At = -1 }, api.ErrRange}, {func(s *spanner.Span) { s.To.At = 1 << 42 }, api.OK}, {func(s *spanner.Span) { s.To.At = 1<<42 + 1 }, api.ErrRange}, {func(s *spanner.Span) { s.To.At = -1 }, api.ErrRange},
			{func(s *spanner.Span) { s.From.Staff, s.To.Staff = 127, 127 }, api.OK}, {func(s *spanner.Span) { s.From.Staff, s.To.Staff = 128, 128 }, api.ErrRange}, {func(s *spanner.Span) { s.From.Staff, s.To.Staff = -1, -1 }, api.ErrRange}, {func(s *spanner.Span) { s.To.Staff = 128 }, api.ErrRange}, {func(s *spanner.Span) { s.From.Staff = -1 }, api.ErrRange},
			{func(s *spanner.Span) { s.From.Voice, s.To.Voice = 1, 1 }, api.OK}, {func(s *spanner.Span) { s.From.Voice, s.To.Voice = 2, 2 }, api.ErrRange}, {func(s *spanner.Span) { s.From.Voice, s.To.Voice = -1, -1 }, api.ErrRange}, {func(s *spanner.Span) { s.To.Voice = 2 }, api.ErrRange}, {func(s *spanner.Span) { s.From.Voice = -1 }, api.ErrRange},
			{func(s *spanner.Span) { s.To.Staff = 1 }, api.ErrSpanner}, {func(s *spanner.Span) { s.From.Staff = 1 }, api.ErrSpanner}, {func(s *spanner.Span) { s.To.Voice = 1 }, ofVoice}, {func(s *spanner.Span) { s.From.Voice = 1 }, ofVoice},
			{func(s *spanner.Span) { s.To = s.From }, api.ErrOrder}, {func(s *spanner.Span) { s.From, s.To = s.To, s.From }, api.ErrOrder}, {func(s *spanner.Span) { s.To.Measure = 3; s.To.At = 1 }, api.OK}, {func(s *spanner.Span) { s.To.Measure = 3; s.From.At = 1 }, api.ErrOrder}, {func(s *spanner.Span) { s.From.At = 1 }, api.OK},
			// Of several errors, the first one.
			{func(s *spanner.Span) { *s = spanner.Span{} }, api.ErrKind}, {func(s *spanner.Span) { s.Kind = 8; s.From.Measure = -1 }, api.ErrKind}, {func(s *spanner.Span) { s.From.Measure = -1; s.To.Staff = 1 }, api.ErrRange}, {func(s *spanner.Span) { s.From.Staff = 1; s.To.At = -1; s.To.Measure = 0 }, api.ErrRange}, {func(s *spanner.Span) { s.To = s.From; s.To.Staff = 1 }, api.ErrSpanner},
		} {
			s := changed(good, c.change)
			if e := spanner.Proper(s); e != c.e {
				t.Errorf("%d: Proper(%v) = %d; want %d", i, s, e, c.e)
			}
		}
	}
	for _, kind := range []int{0, -1, 8, math.MinInt, math.MaxInt} {
		if e := spanner.Proper(span(kind, 0, 1)); e != api.ErrKind {
			t.Errorf("Proper of the kind %d = %d", kind, e)
		}
	}
}

func TestP14_1AtRandom(t *testing.T) {
	r := rand.New(rand.NewSource(14))
	found := map[api.Errno]int{}
	for range 3000 {
		for _, s := range someSpans(r, 5) {
			e := spanner.Proper(s)
			if want := properOf(s); e != want {
				t.Fatalf("Proper(%v) = %d; want %d", s, e, want)
			}
			found[e]++
		}
	}
	for _, e := range []api.Errno{api.OK, api.ErrKind, api.ErrRange, api.ErrSpanner, api.ErrOrder} {
		if found[e] < 20 {
			t.Errorf("the error %d was tested only %d times", e, found[e])
		}
	}
}

func TestP14_6Names(t *testing.T) {
	for kind, name := range map[int]string{1: "slur", 2: "crescendo", 3: "diminuendo", 4: "8va", 5: "8vb", 6: "pedal", 7: "trill"} {
		if got := spanner.Name(kind); got != name {
			t.Errorf("Name(%d) = %q; want %q", kind, got, name)
		}
		if got, e := spanner.Parse(name); got != kind || e != api.OK {
			t.Errorf("Parse(%q) = %d, error %d; want %d", name, got, e, kind)
		}
	}
	for _, kind := range []int{0, -1, 8, math.MinInt, math.MaxInt} {
		if got := spanner.Name(kind); got != "" {
			t.Errorf("Name(%d) = %q", kind, got)
		}
	}
	for _, name := range []string{"", " ", "Slur", "slur ", "slu", "slurs", "8", "8VA", "trillline", "\xff", "hairpin"} {
		if got, e := spanner.Parse(name); got != 0 || e != api.ErrUnknown {
			t.Errorf("Parse(%q) = %d, error %d", name, got, e)
		}
	}
}
