package event_test

import (
	"math"
	"math/rand"
	"reflect"
	"testing"

	"hemiola/api"
	"hemiola/event"
)

// copied returns a copy of an event, and equal compares events; nil lists are equal to empty ones.
func copied(e api.Event) api.Event {
	e.Heads = append([]api.Head(nil), e.Heads...)
	e.Graces = append([]api.Grace(nil), e.Graces...)
	e.Lyrics = append([]api.Syllable(nil), e.Lyrics...)
	return e
}

func equal(a, b api.Event) bool { return reflect.DeepEqual(copied(a), copied(b)) }

// spoil changes all that the lists of an event contain.
func spoil(e api.Event) {
	for i := range e.Heads {
		e.Heads[i] = api.Head{Show: 77}
	}
	for i := range e.Graces {
		e.Graces[i] = api.Grace{Log: 77}
	}
	for i := range e.Lyrics {
		e.Lyrics[i] = api.Syllable{Link: 77}
	}
}

// canonical follows the words of the chapter.
func canonical(e api.Event) api.Event {
	c := copied(e)
	if e.Kind < 1 || e.Kind > 4 {
		return c
	}
	if e.Kind != 1 {
		c = api.Event{ID: e.ID, Kind: e.Kind, Dynamic: e.Dynamic}
		if e.Kind != 3 {
			c.Value = e.Value
		}
		if e.Kind != 4 && e.Articulations >= 0 && e.Articulations/16%2 == 1 {
			c.Articulations = 16
		}
		return c
	}
	c.Heads = nil
	for number := range 128 {
		for _, h := range e.Heads {
			if n, ok := numberOf(h.Pitch); ok && n == number {
				c.Heads = append(c.Heads, h)
				break
			}
		}
	}
	for i := len(c.Lyrics) - 1; i >= 0 && c.Lyrics[i].Text == "" && c.Lyrics[i].Link == 0; i-- {
		c.Lyrics = c.Lyrics[:i]
	}
	return c
}

func TestP11_3Canonical(t *testing.T) {
	mixed := chord("G4 C4 B#3 Fb4 E4")
	mixed.Heads = append(mixed.Heads, api.Head{Pitch: api.Pitch{Step: 8}}, api.Head{Pitch: api.Pitch{Step: 4, Octave: 4}, Tied: true, Show: 9}, api.Head{Pitch: api.Pitch{Octave: -1}, Show: 9})
	want := chord("C-1 C4 Fb4 G4")
	want.Heads[0].Show = 9
	everything := full()
	everything.Lyrics = append(everything.Lyrics, api.Syllable{}, api.Syllable{})
	rest := everything
	rest.Kind = api.Rest
	measureRest, skip, unknown := rest, rest, everything
	measureRest.Kind, skip.Kind, unknown.Kind = api.MeasureRest, api.Skip, 5
	id, value := everything.ID, everything.Value
	absent := chord("C4")
	absent.Lyrics = make([]api.Syllable, 9)
	for i, c := range []struct{ e, want api.Event }{
		{mixed, want}, {chord("G4 C4 B#3"), chord("C4 G4")}, {chord("G4 B#3 C4"), chord("B#3 G4")}, {everything, full()}, {full(), full()}, {absent, chord("C4")},
		{rest, api.Event{ID: id, Kind: 2, Value: value, Articulations: 16, Dynamic: 9}},
		{measureRest, api.Event{ID: id, Kind: 3, Articulations: 16, Dynamic: 9}},
		{skip, api.Event{ID: id, Kind: 4, Value: value, Dynamic: 9}},
		{unknown, unknown}, {api.Event{}, api.Event{}}, {api.Event{Kind: -1, Articulations: -1, Heads: heads("C4 C4")}, api.Event{Kind: -1, Articulations: -1, Heads: heads("C4 C4")}},
		{api.Event{Kind: 2, Articulations: 48}, api.Event{Kind: 2, Articulations: 16}}, {api.Event{Kind: 2, Articulations: 15}, api.Event{Kind: 2}}, {api.Event{Kind: 2, Articulations: -1}, api.Event{Kind: 2}}, {api.Event{Kind: 3, Articulations: math.MinInt}, api.Event{Kind: 3}}, {api.Event{Kind: 3, Articulations: -16}, api.Event{Kind: 3}}, {api.Event{Kind: 3, Articulations: math.MaxInt}, api.Event{Kind: 3, Articulations: 16}},
		// What the kind uses stays, right or wrong.
		{api.Event{ID: api.ID{Site: -1, Number: -5}, Kind: 4, Value: api.Value{Log: 99}, Dynamic: -3}, api.Event{ID: api.ID{Site: -1, Number: -5}, Kind: 4, Value: api.Value{Log: 99}, Dynamic: -3}},
		{api.Event{Kind: 1, Articulations: -5, Ornament: 9, Stem: -1, Beam: 7, Graces: make([]api.Grace, 9), Lyrics: []api.Syllable{{}, {Link: 7}}}, api.Event{Kind: 1, Articulations: -5, Ornament: 9, Stem: -1, Beam: 7, Graces: make([]api.Grace, 9), Lyrics: []api.Syllable{{}, {Link: 7}}}},
	} {
		if got := event.Canonical(c.e); !equal(got, c.want) {
			t.Errorf("%d: Canonical(%v) = %v; want %v", i, c.e, got, c.want)
		}
	}
}

func TestP11_3AtRandom(t *testing.T) {
	events(t, func(r *rand.Rand, e api.Event) {
		want := canonical(e)
		got := event.Canonical(e)
		if !equal(got, want) {
			t.Fatalf("Canonical(%v) = %v; want %v", e, got, want)
		}
		if again := event.Canonical(got); !equal(again, want) {
			t.Fatalf("Canonical(%v) = %v", got, again)
		}
		if event.Check(e) == api.OK && !equal(got, e) {
			t.Fatalf("Canonical of the event %v, which passes Check, is %v", e, got)
		}
		spoil(got)
	})
}

// TestP11_3ManyHeads tests that the first one of many heads with the same number is kept.
func TestP11_3ManyHeads(t *testing.T) {
	r := rand.New(rand.NewSource(5))
	for range 200 {
		e := chord("")
		for i := range 100 {
			e.Heads = append(e.Heads, api.Head{Pitch: somePitch(r), Show: i})
		}
		if got := event.Canonical(e); !equal(got, canonical(e)) {
			t.Fatalf("Canonical(%v) = %v; want %v", e, got, canonical(e))
		}
	}
}

func TestP11_3Written(t *testing.T) {
	for log := -1; log <= 8; log++ {
		for dots := range 4 {
			ticks := 2 * whole >> (log + 1)
			for k := 1; k <= dots; k++ {
				ticks += 2 * whole >> (log + 1 + k)
			}
			for _, kind := range []int{api.Rest, api.Skip} {
				if n, e := event.Written(api.Event{Kind: kind, Value: api.Value{Log: log, Dots: dots}}); n != ticks || e != api.OK {
					t.Errorf("Written of the kind %d, %d, %d: %d, error %d; want %d", kind, log, dots, n, e, ticks)
				}
			}
		}
	}
	if n, e := event.Written(chord("C4")); n != 483840 || e != api.OK {
		t.Errorf("Written of a quarter note: %d, error %d", n, e)
	}
	if n, e := event.Written(api.Event{Kind: api.MeasureRest}); n != 0 || e != api.OK {
		t.Errorf("Written of a measure rest: %d, error %d", n, e)
	}
	events(t, func(r *rand.Rand, e api.Event) {
		n, err := event.Written(e)
		if err != errorOf(e) || err != api.OK && n != 0 || err == api.OK && (n == 0) != (e.Kind == api.MeasureRest) {
			t.Fatalf("Written(%v) = %d, error %d", e, n, err)
		}
	})
}

func TestP11_4Rest(t *testing.T) {
	id := api.ID{Site: 3, Number: 9}
	if e := event.Rest(id, quarter); !equal(e, api.Event{ID: id, Kind: 2, Value: quarter}) {
		t.Error(e)
	}
	if e := event.Rest(api.ID{Site: -1}, api.Value{Log: 99, Dots: -1}); !equal(e, api.Event{ID: api.ID{Site: -1}, Kind: 2, Value: api.Value{Log: 99, Dots: -1}}) {
		t.Error(e)
	}
}

func TestP11_4Chord(t *testing.T) {
	id := api.ID{Site: 1, Number: 5}
	for names, want := range map[string]string{"": "", "C4": "C4", "G4 C4 B#3": "C4 G4", "G4 B#3 C4": "B#3 G4", "C4 C4": "C4", "E4 C4 D4 C4": "C4 D4 E4"} {
		given := named(names)
		kept := append([]api.Pitch(nil), given...)
		got := event.Chord(id, quarter, given...)
		if !equal(got, chord(want)) || !reflect.DeepEqual(given, kept) && len(kept) > 0 {
			t.Errorf("Chord of %q = %v; want %q", names, got, want)
		}
	}
	if got := event.Chord(api.ID{Site: -1}, api.Value{Log: 99}, api.Pitch{Step: 7}, api.Pitch{Octave: 4}, api.Pitch{Octave: 10}); !equal(got, api.Event{ID: api.ID{Site: -1}, Kind: 1, Value: api.Value{Log: 99}, Heads: heads("C4")}) {
		t.Errorf("Chord with pitches that do not exist = %v", got)
	}
	// More pitches than a chord may have are all kept.
	if got := event.Chord(id, quarter, named("C4 D4 E4 F4 G4 A4 B4 C5 D5 E5 F5 G5")...); len(got.Heads) != 12 || event.Check(got) != api.ErrLimit {
		t.Errorf("Chord with twelve pitches has %d heads", len(got.Heads))
	}
}

// fields returns changes of an event, each of another field.
func fields() []func(e *api.Event) {
	return []func(e *api.Event){
		func(e *api.Event) { e.Kind++ }, func(e *api.Event) { e.Value.Log-- }, func(e *api.Event) { e.Value.Dots-- },
		func(e *api.Event) { e.Heads = e.Heads[:1] }, func(e *api.Event) { e.Heads[1].Pitch.Alter++ }, func(e *api.Event) { e.Heads[1].Tied = true }, func(e *api.Event) { e.Heads[0].Show-- },
		func(e *api.Event) { e.Graces = nil }, func(e *api.Event) { e.Graces[0].Slash = false }, func(e *api.Event) { e.Graces[0].Log++ }, func(e *api.Event) { e.Graces[0].Pitch.Step-- },
		func(e *api.Event) { e.Articulations-- }, func(e *api.Event) { e.Ornament-- }, func(e *api.Event) { e.Dynamic-- }, func(e *api.Event) { e.Stem-- }, func(e *api.Event) { e.Beam-- },
		func(e *api.Event) { e.Lyrics = e.Lyrics[:2] }, func(e *api.Event) { e.Lyrics[0].Text = "lo" }, func(e *api.Event) { e.Lyrics[1].Link = 2 },
	}
}

func TestP11_7Equal(t *testing.T) {
	if a := full(); !event.Equal(a, full()) || !event.Same(a, full()) {
		t.Error("equal events are not equal")
	}
	for i, change := range fields() {
		a, b := full(), changed(change)
		if event.Equal(a, b) || event.Equal(b, a) || event.Same(a, b) || event.Same(b, a) {
			t.Errorf("%d: %v and %v are equal", i, a, b)
		}
	}
	for _, id := range []api.ID{{}, {Site: 99, Number: 1}, {Site: 98, Number: 1 << 30}} {
		a, b := full(), full()
		b.ID = id
		if event.Equal(a, b) || !event.Same(a, b) {
			t.Errorf("events with the ids %v and %v: Equal %t, Same %t", a.ID, b.ID, event.Equal(a, b), event.Same(a, b))
		}
	}
	empty := api.Event{Heads: []api.Head{}, Graces: []api.Grace{}, Lyrics: []api.Syllable{}}
	if !event.Equal(empty, api.Event{}) || !event.Equal(api.Event{}, empty) || !event.Same(empty, api.Event{}) {
		t.Error("empty lists are not equal to those that are nil")
	}
}

func TestP11_7AtRandom(t *testing.T) {
	before := full()
	events(t, func(r *rand.Rand, e api.Event) {
		c := event.Clone(e)
		if !equal(c, e) || !event.Equal(c, e) {
			t.Fatalf("Clone(%v) = %v", e, c)
		}
		if spoil(c); len(e.Heads)+len(e.Graces)+len(e.Lyrics) > 0 && event.Equal(c, e) {
			t.Fatalf("a changed copy is equal to %v", e)
		}
		if event.Equal(e, before) != equal(e, before) {
			t.Fatalf("Equal(%v, %v) = %t", e, before, event.Equal(e, before))
		}
		before = e
	})
}
