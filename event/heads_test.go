package event_test

import (
	"math"
	"math/rand"
	"slices"
	"strings"
	"testing"

	"hemiola/api"
	"hemiola/event"
)

// tied returns a chord whose heads with some indices are tied.
func tied(e api.Event, indices ...int) api.Event {
	for _, i := range indices {
		e.Heads[i].Tied = true
	}
	return e
}

func TestP11_5AddHead(t *testing.T) {
	ten := chord("C4 D4 E4 F4 G4 A4 B4 C5 D5 E5")
	head := func(name string) api.Head { return heads(name)[0] }
	shown := api.Head{Pitch: head("E4").Pitch, Tied: true, Show: 2}
	withShown := chord("C4 E4 G4")
	withShown.Heads[1] = shown
	unordered := chord("D4 C4")
	for i, c := range []struct {
		e    api.Event
		h    api.Head
		want api.Event
		err  api.Errno
	}{
		{chord("C4 G4"), head("E4"), chord("C4 E4 G4"), api.OK}, {chord("C4 G4"), head("B3"), chord("B3 C4 G4"), api.OK}, {chord("C4 G4"), head("C5"), chord("C4 G4 C5"), api.OK}, {chord("C4 G4"), shown, withShown, api.OK},
		{chord("C4"), head("C4"), api.Event{}, api.ErrDuplicate}, {chord("C4"), head("B#3"), api.Event{}, api.ErrDuplicate}, {chord("C4 E4"), head("Fb4"), api.Event{}, api.ErrDuplicate},
		{ten, head("F5"), api.Event{}, api.ErrLimit}, {ten, head("E5"), api.Event{}, api.ErrDuplicate}, {ten, api.Head{Show: 3}, api.Event{}, api.ErrRange},
		{chord("C4"), api.Head{Pitch: api.Pitch{Step: 7}, Show: 3}, api.Event{}, api.ErrPitch}, {chord("C4"), api.Head{Show: -1}, api.Event{}, api.ErrRange}, {chord("C4"), api.Head{Pitch: api.Pitch{Octave: 4}, Show: 3}, api.Event{}, api.ErrRange}, {chord("C4"), api.Head{Pitch: api.Pitch{Octave: math.MinInt}}, api.Event{}, api.ErrPitch},
		{api.Event{Kind: 2}, head("C4"), api.Event{}, api.ErrKind}, {api.Event{Kind: 3}, api.Head{Show: 3}, api.Event{}, api.ErrKind}, {api.Event{Kind: 4}, head("C4"), api.Event{}, api.ErrKind},
		{chord(""), head("C4"), api.Event{}, api.ErrShort}, {unordered, head("C4"), api.Event{}, api.ErrOrder}, {api.Event{}, api.Head{Show: 3}, api.Event{}, api.ErrKind}, {api.Event{Kind: 2, Stem: 1}, head("C4"), api.Event{}, api.ErrFormat},
	} {
		got, err := event.AddHead(c.e, c.h)
		if err != c.err || !equal(got, c.want) {
			t.Errorf("%d: AddHead(%v, %v) = %v, error %d; want %v, error %d", i, c.e, c.h, got, err, c.want, c.err)
		}
	}
}

func TestP11_5RemoveHead(t *testing.T) {
	single := full()
	single.Heads = single.Heads[:1]
	staccato := chord("C4")
	staccato.Articulations, staccato.Dynamic = api.Staccato, 6
	for i, c := range []struct {
		e     api.Event
		index int
		want  api.Event
		err   api.Errno
	}{
		{chord("C4 E4 G4"), 0, chord("E4 G4"), api.OK}, {chord("C4 E4 G4"), 1, chord("C4 G4"), api.OK}, {chord("C4 E4 G4"), 2, chord("C4 E4"), api.OK},
		{chord("C4"), 0, api.Event{ID: api.ID{Site: 1, Number: 5}, Kind: 2, Value: quarter}, api.OK}, {single, 0, api.Event{ID: single.ID, Kind: 2, Value: single.Value, Articulations: 16, Dynamic: 9}, api.OK}, {staccato, 0, api.Event{ID: staccato.ID, Kind: 2, Value: quarter, Dynamic: 6}, api.OK},
		{full(), 1, single, api.OK},
		{chord("C4 E4 G4"), 3, api.Event{}, api.ErrRange}, {chord("C4"), -1, api.Event{}, api.ErrRange}, {chord("C4"), math.MaxInt, api.Event{}, api.ErrRange}, {chord("C4"), math.MinInt, api.Event{}, api.ErrRange},
		{api.Event{Kind: 2}, 0, api.Event{}, api.ErrKind}, {api.Event{Kind: 3}, -1, api.Event{}, api.ErrKind}, {chord(""), 0, api.Event{}, api.ErrShort}, {chord("D4 C4"), 5, api.Event{}, api.ErrOrder}, {api.Event{}, 5, api.Event{}, api.ErrKind}, {api.Event{Kind: 4, Articulations: 1}, 0, api.Event{}, api.ErrFormat},
	} {
		got, err := event.RemoveHead(c.e, c.index)
		if err != c.err || !equal(got, c.want) {
			t.Errorf("%d: RemoveHead(%v, %d) = %v, error %d; want %v, error %d", i, c.e, c.index, got, err, c.want, c.err)
		}
	}
}

func TestP11_5FindHead(t *testing.T) {
	ill := chord("C4 E4")
	ill.Heads = append([]api.Head{{Pitch: api.Pitch{Step: 7, Octave: 4}}, {Pitch: api.Pitch{Octave: 10}}}, ill.Heads...)
	lowest := chord("C-1 C4")
	lowest.Heads = append([]api.Head{{Pitch: api.Pitch{Step: 7, Octave: 4}}}, lowest.Heads...)
	for i, c := range []struct {
		e     api.Event
		p     api.Pitch
		index int
		found bool
	}{
		{chord("C4 E4 G4"), named("C4")[0], 0, true}, {chord("C4 E4 G4"), named("G4")[0], 2, true}, {chord("C4 E4 G4"), named("Fb4")[0], 1, true}, {chord("C4 E4 G4"), named("D4")[0], 0, false}, {chord("E4 C4 B#3"), named("C4")[0], 1, true}, {chord("E4 B#3 C4"), named("C4")[0], 1, true},
		{chord(""), named("C4")[0], 0, false}, {ill, named("E4")[0], 3, true}, {lowest, named("C-1")[0], 1, true}, {ill, named("C-1")[0], 0, false}, {ill, api.Pitch{Step: 7, Octave: 4}, 0, false}, {ill, api.Pitch{Octave: 10}, 0, false}, {chord("C-1"), api.Pitch{Octave: 10}, 0, false},
	} {
		if index, found := event.FindHead(c.e, c.p); index != c.index || found != c.found {
			t.Errorf("%d: FindHead(%v, %v) = %d, %t; want %d, %t", i, c.e, c.p, index, found, c.index, c.found)
		}
	}
}

// added returns the chord with a further head as the chapter says, and removed the chord without one.
func added(e api.Event, h api.Head) (api.Event, api.Errno) {
	n, ok := numberOf(h.Pitch)
	switch {
	case errorOf(e) != api.OK:
		return api.Event{}, errorOf(e)
	case e.Kind != 1:
		return api.Event{}, api.ErrKind
	case !ok:
		return api.Event{}, api.ErrPitch
	case outside(h.Show, 0, 2):
		return api.Event{}, api.ErrRange
	case slices.ContainsFunc(e.Heads, func(o api.Head) bool { m, _ := numberOf(o.Pitch); return n == m }):
		return api.Event{}, api.ErrDuplicate
	case len(e.Heads) == 10:
		return api.Event{}, api.ErrLimit
	}
	c := copied(e)
	c.Heads = append(c.Heads, h)
	return canonical(c), api.OK
}

func removed(e api.Event, index int) (api.Event, api.Errno) {
	switch {
	case errorOf(e) != api.OK:
		return api.Event{}, errorOf(e)
	case e.Kind != 1:
		return api.Event{}, api.ErrKind
	case outside(index, 0, len(e.Heads)-1):
		return api.Event{}, api.ErrRange
	}
	c := copied(e)
	if c.Heads = append(c.Heads[:index:index], e.Heads[index+1:]...); len(c.Heads) == 0 {
		c.Kind = 2
		return canonical(c), api.OK
	}
	return c, api.OK
}

func TestP11_5AtRandom(t *testing.T) {
	found := map[api.Errno]int{}
	events(t, func(r *rand.Rand, e api.Event) {
		h := api.Head{Pitch: somePitch(r), Tied: r.Intn(2) > 0, Show: rare(r, r.Intn(3), -1, 3)}
		got, err := event.AddHead(e, h)
		if want, f := added(e, h); err != f || !equal(got, want) {
			t.Fatalf("AddHead(%v, %v) = %v, error %d; want %v, error %d", e, h, got, err, want, f)
		}
		found[err]++
		if err == api.OK {
			index, ok := event.FindHead(got, h.Pitch)
			back, f := event.RemoveHead(got, index)
			if !ok || f != api.OK || !event.Equal(back, e) || event.Check(got) != api.OK {
				t.Fatalf("%v with %v and without it is %v, error %d", e, h, back, f)
			}
		}
		index := r.Intn(6) - 1
		less, err := event.RemoveHead(e, index)
		if want, f := removed(e, index); err != f || !equal(less, want) {
			t.Fatalf("RemoveHead(%v, %d) = %v, error %d; want %v, error %d", e, index, less, err, want, f)
		}
		if err == api.OK && event.Check(less) != api.OK {
			t.Fatalf("RemoveHead(%v, %d) = %v, which does not pass Check", e, index, less)
		}
		spoil(got)
		spoil(less)
	})
	for _, e := range []api.Errno{api.OK, api.ErrKind, api.ErrPitch, api.ErrRange, api.ErrDuplicate, api.ErrLimit} {
		if found[e] == 0 {
			t.Errorf("AddHead never had the error %d", e)
		}
	}
}

func TestP11_6Ties(t *testing.T) {
	rest := tied(chord("C4"), 0)
	rest.Kind = api.Rest
	for i, c := range []struct {
		e            api.Event
		ties, sounds bool
	}{
		{chord("C4 E4"), false, true}, {tied(chord("C4 E4"), 0), true, true}, {tied(chord("C4 E4"), 1), true, true}, {tied(chord("C4 E4"), 0, 1), true, true}, {chord(""), false, false}, {api.Event{}, false, false}, {api.Event{Kind: 2}, false, false}, {api.Event{Kind: 3}, false, false}, {api.Event{Kind: 4}, false, false}, {rest, false, false},
		{api.Event{Kind: 1, Heads: []api.Head{{Pitch: api.Pitch{Step: 9}}}}, false, true},
	} {
		if ties, sounds := event.Ties(c.e), event.Sounds(c.e); ties != c.ties || sounds != c.sounds {
			t.Errorf("%d: Ties(%v) = %t, Sounds %t", i, c.e, ties, sounds)
		}
		free := event.Untie(c.e)
		want := copied(c.e)
		for i := range want.Heads {
			want.Heads[i].Tied = false
		}
		if !equal(free, want) {
			t.Errorf("%d: Untie(%v) = %v", i, c.e, free)
		}
	}
}

func TestP11_6Joins(t *testing.T) {
	restOf := func(e api.Event) api.Event {
		e.Kind = api.Rest
		return e
	}
	rest := api.Event{Kind: 2}
	for i, c := range []struct {
		e, next api.Event
		want    bool
	}{
		{chord("C4 E4"), rest, true}, {chord(""), rest, true}, {rest, rest, true}, {rest, chord("C4"), true}, {api.Event{}, api.Event{}, true},
		{tied(chord("C4 E4"), 0), chord("C4"), true}, {tied(chord("C4 E4"), 0), chord("E4"), false}, {tied(chord("C4 E4"), 1), chord("C4"), false}, {tied(chord("C4 E4"), 0, 1), chord("C4"), false}, {tied(chord("C4 E4"), 0, 1), chord("E4"), false}, {tied(chord("C4 E4"), 0, 1), chord("B3 C4 D4 E4"), true}, {tied(chord("C4 E4"), 0, 1), chord("E4 C4"), true},
		// The pitch must be the same, not only the number.
		{tied(chord("C4"), 0), chord("B#3"), false}, {tied(chord("C4"), 0), chord("C5"), false}, {tied(chord("C4"), 0), rest, false}, {tied(chord("C4"), 0), api.Event{Kind: 3}, false}, {tied(chord("C4"), 0), api.Event{}, false}, {tied(chord("C4"), 0), restOf(chord("C4")), false}, {restOf(tied(chord("C4"), 0)), rest, true},
	} {
		if got := event.Joins(c.e, c.next); got != c.want {
			t.Errorf("%d: Joins(%v, %v) = %t", i, c.e, c.next, got)
		}
	}
}

func TestP11_6AtRandom(t *testing.T) {
	joined := map[bool]int{}
	events(t, func(r *rand.Rand, e api.Event) {
		next := nextTo(r, e)
		ties, joins := false, true
		for _, h := range e.Heads {
			if e.Kind == 1 && h.Tied {
				ties = true
				joins = joins && next.Kind == 1 && slices.ContainsFunc(next.Heads, func(o api.Head) bool { return o.Pitch == h.Pitch })
			}
		}
		if event.Ties(e) != ties || event.Joins(e, next) != joins || event.Sounds(e) != (e.Kind == 1 && len(e.Heads) > 0) {
			t.Fatalf("%v: Ties %t, Sounds %t, Joins to %v %t", e, event.Ties(e), event.Sounds(e), next, event.Joins(e, next))
		}
		if ties {
			joined[joins]++
		}
		free := event.Untie(e)
		if event.Ties(free) || !event.Joins(free, next) {
			t.Fatalf("Untie(%v) = %v", e, free)
		}
		spoil(free)
	})
	if joined[true] < 500 || joined[false] < 500 {
		t.Errorf("ties joined and did not join: %v", joined)
	}
}

// nextTo returns an event that has some of the pitches of another one, and others.
func nextTo(r *rand.Rand, e api.Event) api.Event {
	next := copied(e)
	if r.Intn(6) == 0 {
		next.Kind = 1 + r.Intn(4)
	}
	r.Shuffle(len(next.Heads), func(i, k int) { next.Heads[i], next.Heads[k] = next.Heads[k], next.Heads[i] })
	for i := range next.Heads {
		next.Heads[i].Tied = r.Intn(2) > 0
		if r.Intn(6) == 0 {
			next.Heads[i].Pitch = somePitch(r)
		}
	}
	return next
}

// TestP11_8Errors tests that nothing but the error is returned with an error.
func TestP11_8Errors(t *testing.T) {
	events(t, func(r *rand.Rand, e api.Event) {
		if errorOf(e) == api.OK {
			return
		}
		a, f := event.AddHead(e, api.Head{Pitch: api.Pitch{Octave: 4}})
		b, g := event.RemoveHead(e, 0)
		n, h := event.Written(e)
		if !equal(a, api.Event{}) || !equal(b, api.Event{}) || n != 0 || f != errorOf(e) || g != f || h != f {
			t.Fatalf("%v: %v, error %d; %v, error %d; %d, error %d", e, a, f, b, g, n, h)
		}
	})
}

func TestP11_8Examples(t *testing.T) {
	if e := event.Chord(api.ID{}, quarter, named("G4 C4 B#3")...); len(e.Heads) != 2 || e.Heads[0].Pitch != named("C4")[0] || e.Heads[1].Pitch != named("G4")[0] {
		t.Errorf("the chord G4, C4, B#3 is %v", e)
	}
	note := chord("C4")
	note.Articulations, note.Dynamic = api.Fermata, 6
	if e, err := event.RemoveHead(note, 0); err != api.OK || !equal(e, api.Event{ID: note.ID, Kind: 2, Value: quarter, Articulations: 16, Dynamic: 6}) {
		t.Errorf("a note with a fermata without its head is %v, error %d", e, err)
	}
	// Long texts and lists are no trouble.
	long := api.Event{Kind: 1, Heads: make([]api.Head, 5000), Lyrics: []api.Syllable{{Text: strings.Repeat("a", 100000)}}}
	if err := event.Check(long); err != api.ErrLimit {
		t.Errorf("a chord with 5000 heads: error %d", err)
	}
}
