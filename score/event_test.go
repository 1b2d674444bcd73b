package score_test

import (
	"math"
	"testing"

	"hemiola/api"
	"hemiola/sample"
	"hemiola/score"
)

// somePlace returns a place, which is that of an event more often than not.
func somePlace(r *sample.Source, s api.Score) score.Place {
	p := score.Place{Kind: score.Event, Staff: r.Below(4), Measure: r.Below(4), Voice: r.Below(3), Event: r.Below(4)}
	if l := eventsOf(s); len(l) > 0 && r.Chance(80) {
		p = l[r.Below(len(l))].place
	}
	switch r.Below(10) {
	case 0:
		p.Kind = r.Below(7)
	case 1:
		p.Part, p.Spanner = r.Below(9)-4, r.Below(9)-4
	case 2:
		*sample.Pick(r, &p.Staff, &p.Measure, &p.Voice, &p.Event) = sample.Pick(r, -1, math.MinInt, math.MaxInt)
	}
	return p
}

// eventAtOf returns the index of the object that is the event at a place, or the error.
func eventAtOf(s api.Score, p score.Place) (int, api.Errno) {
	if p.Kind != score.Event {
		return 0, api.ErrKind
	}
	p.Part, p.Spanner = 0, 0
	for i, o := range objectsOf(s) {
		if o.place == p {
			return i, api.OK
		}
	}
	return 0, api.ErrRange
}

func TestP15_3EventAt(t *testing.T) {
	errors := map[api.Errno]int{}
	scores(t, 3000, func(r *sample.Source, s api.Score) {
		p := somePlace(r, s)
		_, wanted := eventAtOf(s, p)
		errors[wanted]++
		var want api.Event
		if wanted == api.OK {
			want = s.Measures[p.Measure].Cells[p.Staff].Voices[p.Voice].Events[p.Event]
		}
		got, e := score.EventAt(s, p)
		if text(got) != text(want) || e != wanted {
			t.Fatalf("EventAt(%s, %+v) = %s, error %d; want %s, error %d", text(s), p, text(got), e, text(want), wanted)
		}
		spoil(got)
		x := wildEvent(r, func() api.ID { return api.ID{Site: r.Below(3), Number: r.Below(9)} })
		before := text(x)
		var set api.Score
		if wanted == api.OK {
			set = copied(s)
			set.Measures[p.Measure].Cells[p.Staff].Voices[p.Voice].Events[p.Event] = x
			set = pruned(set)
		}
		out, e := score.SetEvent(s, p, x)
		agree(t, "SetEvent", out, e, set, wanted)
		if text(x) != before {
			t.Fatal("SetEvent keeps the event")
		}
	})
	for _, e := range []api.Errno{api.OK, api.ErrKind, api.ErrRange} {
		if errors[e] < 100 {
			t.Errorf("the error %d occurred only %d times", e, errors[e])
		}
	}
}

func TestP15_3Errors(t *testing.T) {
	s := sample.Read("1", "4/4 : C4:2 r:2 | R")
	for i, c := range []struct {
		p score.Place
		e api.Errno
	}{
		{score.Place{Kind: score.Event, Event: 1}, api.OK}, {score.Place{Kind: score.Event, Voice: 1}, api.OK}, {score.Place{Kind: score.Event, Part: 77, Spanner: -1}, api.OK},
		{score.Place{Kind: score.Event, Event: 2}, api.ErrRange}, {score.Place{Kind: score.Event, Voice: 2}, api.ErrRange}, {score.Place{Kind: score.Event, Staff: 1}, api.ErrRange}, {score.Place{Kind: score.Event, Measure: 1}, api.ErrRange},
		{score.Place{Kind: score.Event, Event: -1}, api.ErrRange}, {score.Place{Kind: score.Event, Voice: -1}, api.ErrRange}, {score.Place{Kind: score.Event, Staff: -1}, api.ErrRange}, {score.Place{Kind: score.Event, Measure: -1}, api.ErrRange},
		{score.Place{}, api.ErrKind}, {score.Place{Kind: score.Measure, Measure: -1}, api.ErrKind}, {score.Place{Kind: 6}, api.ErrKind}, {score.Place{Kind: -4}, api.ErrKind},
	} {
		if x, e := score.EventAt(s, c.p); e != c.e || e != api.OK && text(x) != text(api.Event{}) {
			t.Errorf("%d: EventAt = %s, error %d; want %d", i, text(x), e, c.e)
		}
		if x, e := score.SetEvent(s, c.p, api.Event{}); e != c.e || e != api.OK && text(x) != text(api.Score{}) {
			t.Errorf("%d: SetEvent = %s, error %d; want %d", i, text(x), e, c.e)
		}
	}
	// A spanner whose event is replaced by one with another id is removed.
	s.Spanners = []api.Spanner{{ID: api.ID{Number: 9}, Kind: api.Slur, From: s.Measures[0].Cells[0].Voices[0].Events[0].ID, To: s.Measures[0].Cells[0].Voices[0].Events[1].ID}}
	x := s.Measures[0].Cells[0].Voices[0].Events[1]
	x.Dynamic = 3
	if out, _ := score.SetEvent(s, score.Place{Kind: score.Event, Event: 1}, x); len(out.Spanners) != 1 {
		t.Error("SetEvent with the same id removes the spanner")
	}
	x.ID.Number = 99
	if out, _ := score.SetEvent(s, score.Place{Kind: score.Event, Event: 1}, x); len(out.Spanners) != 0 {
		t.Error("SetEvent with another id leaves the spanner")
	}
}

// nextOf returns the place that follows another one.
func nextOf(s api.Score, p score.Place) (score.Place, bool) {
	if _, e := eventAtOf(s, p); e != api.OK {
		return score.Place{}, false
	}
	here := score.Place{Kind: score.Event, Staff: p.Staff, Measure: p.Measure, Voice: p.Voice, Event: p.Event + 1}
	if _, e := eventAtOf(s, here); e == api.OK {
		return here, true
	}
	there := score.Place{Kind: score.Event, Staff: p.Staff, Measure: p.Measure + 1, Voice: p.Voice}
	if _, e := eventAtOf(s, there); e == api.OK {
		return there, true
	}
	return score.Place{}, false
}

func TestP15_3Next(t *testing.T) {
	found := map[bool]int{}
	scores(t, 2000, func(r *sample.Source, s api.Score) {
		p := somePlace(r, s)
		want, is := nextOf(s, p)
		if next, found := score.Next(s, p); next != want || found != is {
			t.Fatalf("Next(%s, %+v) = %+v, %t; want %+v, %t", text(s), p, next, found, want, is)
		}
		found[is]++
		want, is = score.Place{}, false
		if _, e := eventAtOf(s, p); e == api.OK {
			asked := p
			asked.Part, asked.Spanner = 0, 0
			for _, o := range eventsOf(s) {
				if next, leads := nextOf(s, o.place); leads && next == asked {
					want, is = o.place, true
				}
			}
		}
		if previous, found := score.Previous(s, p); previous != want || found != is {
			t.Fatalf("Previous(%s, %+v) = %+v, %t; want %+v, %t", text(s), p, previous, found, want, is)
		}
		found[is]++
	})
	if found[true] < 500 || found[false] < 500 {
		t.Error("places:", found)
	}
}

func TestP15_3NextMeasure(t *testing.T) {
	s := sample.Read("1", "4/4 : C4:2 r:2 | R", "4/4 : R", "4/4 : r:1 | r:1")
	event := func(measure, voice, index int) score.Place {
		return score.Place{Kind: score.Event, Measure: measure, Voice: voice, Event: index}
	}
	for _, c := range [][2]score.Place{{event(0, 0, 0), event(0, 0, 1)}, {event(0, 0, 1), event(1, 0, 0)}, {event(1, 0, 0), event(2, 0, 0)}} {
		if next, found := score.Next(s, c[0]); next != c[1] || !found {
			t.Errorf("Next(%+v) = %+v, %t", c[0], next, found)
		}
		if previous, found := score.Previous(s, c[1]); previous != c[0] || !found {
			t.Errorf("Previous(%+v) = %+v, %t", c[1], previous, found)
		}
	}
	for _, p := range []score.Place{event(0, 1, 0), event(2, 0, 0), event(2, 1, 0), {}} {
		if next, found := score.Next(s, p); next != (score.Place{}) || found {
			t.Errorf("Next(%+v) = %+v, %t", p, next, found)
		}
	}
	for _, p := range []score.Place{event(0, 0, 0), event(0, 1, 0), event(2, 1, 0), {Kind: score.Measure, Measure: 1}} {
		if previous, found := score.Previous(s, p); previous != (score.Place{}) || found {
			t.Errorf("Previous(%+v) = %+v, %t", p, previous, found)
		}
	}
}

func TestP15_9NextPrevious(t *testing.T) {
	scores(t, 500, func(r *sample.Source, s api.Score) {
		for _, o := range eventsOf(s) {
			if next, found := score.Next(s, o.place); found {
				if p, found := score.Previous(s, next); p != o.place || !found {
					t.Fatalf("Previous(%s, %+v) = %+v, %t", text(s), next, p, found)
				}
			}
			if previous, found := score.Previous(s, o.place); found {
				if p, found := score.Next(s, previous); p != o.place || !found {
					t.Fatalf("Next(%s, %+v) = %+v, %t", text(s), previous, p, found)
				}
			}
		}
	})
}
