package event_test

import (
	"math"
	"math/rand"
	"slices"
	"strings"
	"testing"

	"hemiola/api"
	"hemiola/event"
	"hemiola/pitch"
)

const (
	quarterLog = 2
	whole      = 1935360
)

var quarter = api.Value{Log: quarterLog}

// named returns the pitches with names that are separated by blanks.
func named(names string) []api.Pitch {
	var l []api.Pitch
	for _, name := range strings.Fields(names) {
		p, _, e := pitch.Parse(name)
		if e != api.OK {
			panic("no pitch: " + name)
		}
		l = append(l, p)
	}
	return l
}

// heads returns a head for each of some pitches.
func heads(names string) []api.Head {
	var l []api.Head
	for _, p := range named(names) {
		l = append(l, api.Head{Pitch: p})
	}
	return l
}

// chord returns a quarter note with some pitches in order.
func chord(names string) api.Event {
	return api.Event{ID: api.ID{Site: 1, Number: 5}, Kind: api.Chord, Value: quarter, Heads: heads(names)}
}

// full returns a valid chord with something in every field.
func full() api.Event {
	return api.Event{
		ID: api.ID{Site: 99, Number: 1 << 30}, Kind: 1, Value: api.Value{Log: 3, Dots: 3},
		Heads:         []api.Head{{Pitch: api.Pitch{Octave: 4}, Tied: true, Show: 2}, {Pitch: api.Pitch{Step: 1, Alter: -1, Octave: 5}, Show: 1}},
		Graces:        []api.Grace{{Pitch: api.Pitch{Step: 6, Octave: 3}, Log: 3, Slash: true}},
		Articulations: 31, Ornament: 4, Dynamic: 9,
		Lyrics: []api.Syllable{{Text: "la", Link: 1}, {}, {Link: 2}},
		Stem:   2, Beam: 2,
	}
}

// numberOf returns the number of a pitch, and whether it is well-formed, as the chapter on pitches defines it.
func numberOf(p api.Pitch) (int, bool) {
	if p.Step < 0 || p.Step > 6 || p.Alter < -2 || p.Alter > 2 || p.Octave < -1 || p.Octave > 9 {
		return 0, false
	}
	n := 12*(p.Octave+1) + strings.IndexByte("C.D.EF.G.A.B", "CDEFGAB"[p.Step]) + p.Alter
	return n, n >= 0 && n <= 127
}

// outside reports whether a number is outside of a range.
func outside(n, least, greatest int) bool { return n < least || n > greatest }

func headsError(l []api.Head) api.Errno {
	switch {
	case len(l) < 1:
		return api.ErrShort
	case len(l) > 10:
		return api.ErrLimit
	}
	before := -1
	for _, h := range l {
		n, ok := numberOf(h.Pitch)
		switch {
		case !ok:
			return api.ErrPitch
		case outside(h.Show, 0, 2):
			return api.ErrRange
		case n <= before:
			return api.ErrOrder
		}
		before = n
	}
	return api.OK
}

func gracesError(l []api.Grace) api.Errno {
	if len(l) > 8 {
		return api.ErrLimit
	}
	for _, g := range l {
		if _, ok := numberOf(g.Pitch); !ok {
			return api.ErrPitch
		}
		if outside(g.Log, 1, 6) {
			return api.ErrRange
		}
	}
	return api.OK
}

func lyricsError(l []api.Syllable) api.Errno {
	if len(l) > 4 {
		return api.ErrLimit
	}
	for _, s := range l {
		switch {
		case outside(s.Link, 0, 2):
			return api.ErrRange
		case len(s.Text) > 256:
			return api.ErrLong
		case slices.ContainsFunc([]byte(s.Text), func(b byte) bool { return b < 32 || b == 127 }):
			return api.ErrByte
		case s.Text == "" && s.Link == 1:
			return api.ErrFormat
		}
	}
	if len(l) > 0 && l[len(l)-1] == (api.Syllable{}) {
		return api.ErrFormat
	}
	return api.OK
}

// unused reports whether an event has something that its kind does not use.
func unused(e api.Event) bool {
	others := len(e.Heads) > 0 || len(e.Graces) > 0 || e.Ornament != 0 || len(e.Lyrics) > 0 || e.Stem != 0 || e.Beam != 0
	switch e.Kind {
	case 1:
		return false
	case 2:
		return others || e.Articulations != 0 && e.Articulations != 16
	case 3:
		return others || e.Articulations != 0 && e.Articulations != 16 || e.Value != api.Value{}
	default:
		return others || e.Articulations != 0
	}
}

// errorOf follows the list of errors of the chapter.
func errorOf(e api.Event) api.Errno {
	switch {
	case outside(e.ID.Site, 0, 99) || outside(e.ID.Number, 0, 1<<30):
		return api.ErrRange
	case outside(e.Kind, 1, 4):
		return api.ErrKind
	case unused(e):
		return api.ErrFormat
	case e.Kind != 3 && (outside(e.Value.Log, -1, 8) || outside(e.Value.Dots, 0, 3)):
		return api.ErrValue
	}
	if e.Kind == 1 {
		for _, err := range []api.Errno{headsError(e.Heads), gracesError(e.Graces), lyricsError(e.Lyrics)} {
			if err != api.OK {
				return err
			}
		}
	}
	if outside(e.Articulations, 0, 31) || outside(e.Ornament, 0, 4) || outside(e.Dynamic, 0, 9) || outside(e.Stem, 0, 2) || outside(e.Beam, 0, 2) {
		return api.ErrRange
	}
	return api.OK
}

// pick returns one of some values.
func pick[T any](r *rand.Rand, l ...T) T { return l[r.Intn(len(l))] }

// rare returns a value, or sometimes another one.
func rare[T any](r *rand.Rand, usual T, others ...T) T {
	if r.Intn(12) > 0 {
		return usual
	}
	return pick(r, others...)
}

func somePitch(r *rand.Rand) api.Pitch {
	return api.Pitch{Step: r.Intn(7), Alter: r.Intn(5) - 2, Octave: rare(r, 4, -1, 9, 5, -2, 10)}
}

func someHeads(r *rand.Rand) []api.Head {
	var l []api.Head
	for range rare(r, r.Intn(4), 10, 11) {
		l = append(l, api.Head{Pitch: somePitch(r), Tied: r.Intn(2) > 0, Show: rare(r, r.Intn(3), -1, 3)})
	}
	if r.Intn(3) > 0 {
		slices.SortStableFunc(l, func(a, b api.Head) int {
			n, _ := numberOf(a.Pitch)
			m, _ := numberOf(b.Pitch)
			return n - m
		})
	}
	return l
}

func someGraces(r *rand.Rand) []api.Grace {
	var l []api.Grace
	for range rare(r, 0, 1, 2, 8, 9) {
		l = append(l, api.Grace{Pitch: somePitch(r), Log: rare(r, 1+r.Intn(6), 0, 7, -1)})
	}
	return l
}

func someLyrics(r *rand.Rand) []api.Syllable {
	var l []api.Syllable
	for range rare(r, 0, 1, 2, 3, 4, 5) {
		text := pick(r, "", "", "a", "b c", "\u00e4")
		l = append(l, api.Syllable{Text: rare(r, text, "\x1f", "\x7f", strings.Repeat("x", 257)), Link: rare(r, r.Intn(3), -1, 3)})
	}
	return l
}

// some returns an event, often a valid one.
func some(r *rand.Rand) api.Event {
	e := api.Event{
		ID:   api.ID{Site: rare(r, r.Intn(100), -1, 100), Number: rare(r, r.Intn(1<<30), -1, 1<<30, 1<<30+1)},
		Kind: rare(r, 1+r.Intn(4), 0, 5, -1), Dynamic: rare(r, r.Intn(10), -1, 10),
	}
	if e.Kind != 3 || r.Intn(12) == 0 {
		e.Value = api.Value{Log: rare(r, r.Intn(10)-1, -2, 9), Dots: rare(r, r.Intn(4), -1, 4)}
	}
	if e.Kind != 4 || r.Intn(12) == 0 {
		e.Articulations = rare(r, pick(r, 0, 16), 32, 48, -1, -16, math.MinInt)
	}
	if e.Kind == 1 || r.Intn(12) == 0 {
		e.Heads, e.Graces, e.Lyrics = someHeads(r), someGraces(r), someLyrics(r)
		e.Articulations = rare(r, r.Intn(32), 32, -1, 48)
		e.Ornament, e.Stem, e.Beam = rare(r, r.Intn(5), -1, 5), rare(r, r.Intn(3), -1, 3), rare(r, r.Intn(3), -1, 3)
	}
	return e
}

// events calls a function with many events, and reports an error if it changes one.
func events(t *testing.T, test func(r *rand.Rand, e api.Event)) {
	t.Helper()
	r := rand.New(rand.NewSource(11))
	for range 20000 {
		e := some(r)
		kept := copied(e)
		if test(r, e); !equal(e, kept) {
			t.Fatalf("the argument %v was changed from %v", e, kept)
		}
	}
}

// TestP11_1Heads, TestP11_1Graces and TestP11_1Lyrics test the errors of the lists.
func TestP11_1Heads(t *testing.T) {
	wrong := func(names string, i int, h api.Head) []api.Head {
		l := heads(names)
		l[i] = h
		return l
	}
	ten := "C4 D4 E4 F4 G4 A4 B4 C5 D5 E5"
	for i, c := range []struct {
		l []api.Head
		e api.Errno
	}{
		{nil, api.ErrShort}, {[]api.Head{}, api.ErrShort},
		{heads("C4"), api.OK}, {heads("C4 C#4 D4"), api.OK}, {heads("C-1 G9"), api.OK}, {heads(ten), api.OK}, {heads("Cb4 B#3"), api.OK}, {heads("E#4 Fb4"), api.ErrOrder},
		{heads(ten + " F5"), api.ErrLimit}, {wrong(ten+" F5", 0, api.Head{Pitch: api.Pitch{Step: 9}}), api.ErrLimit},
		{heads("C4 C4"), api.ErrOrder}, {heads("C4 B#3"), api.ErrOrder}, {heads("D4 C4"), api.ErrOrder}, {heads("C4 E4 D4"), api.ErrOrder},
		{[]api.Head{{Pitch: api.Pitch{Step: 7}}}, api.ErrPitch}, {[]api.Head{{Pitch: api.Pitch{Alter: -1, Octave: -1}}}, api.ErrPitch}, {[]api.Head{{Pitch: api.Pitch{Step: 5, Octave: 9}}}, api.ErrPitch}, {[]api.Head{{Pitch: api.Pitch{Octave: math.MaxInt}}}, api.ErrPitch},
		{[]api.Head{{Show: 3}}, api.ErrRange}, {[]api.Head{{Show: -1}}, api.ErrRange}, {[]api.Head{{Show: math.MinInt}}, api.ErrRange}, {[]api.Head{{Show: 2, Tied: true}}, api.OK},
		// Of several errors, the first one is returned.
		{[]api.Head{{Pitch: api.Pitch{Step: -1}, Show: 3}}, api.ErrPitch}, {wrong("C4 D4", 1, api.Head{Show: 3}), api.ErrRange}, {wrong("D4 C4 E4", 2, api.Head{Show: 3}), api.ErrOrder}, {wrong("C4 D4", 1, api.Head{Pitch: api.Pitch{Step: 7}}), api.ErrPitch},
	} {
		if e := event.CheckHeads(c.l); e != c.e || e != headsError(c.l) {
			t.Errorf("%d: CheckHeads: error %d; want %d", i, e, c.e)
		}
	}
}

func TestP11_1Graces(t *testing.T) {
	c4 := api.Pitch{Octave: 4}
	eight := slices.Repeat([]api.Grace{{Pitch: c4, Log: 3}}, 8)
	for i, c := range []struct {
		l []api.Grace
		e api.Errno
	}{
		{nil, api.OK}, {eight, api.OK}, {append(eight[:8:8], api.Grace{}), api.ErrLimit}, {make([]api.Grace, 9), api.ErrLimit},
		{[]api.Grace{{Pitch: c4, Log: 1, Slash: true}, {Pitch: c4, Log: 6}}, api.OK},
		{[]api.Grace{{Pitch: c4}}, api.ErrRange}, {[]api.Grace{{Pitch: c4, Log: 7}}, api.ErrRange}, {[]api.Grace{{Pitch: c4, Log: -1}}, api.ErrRange}, {[]api.Grace{{Pitch: c4, Log: math.MaxInt}}, api.ErrRange},
		{[]api.Grace{{Pitch: api.Pitch{Alter: 3}, Log: 7}}, api.ErrPitch}, {[]api.Grace{{Pitch: api.Pitch{Step: 4, Alter: 1, Octave: 9}, Log: 3}}, api.ErrPitch},
		{[]api.Grace{{Pitch: c4, Log: 7}, {Pitch: api.Pitch{Alter: 3}, Log: 3}}, api.ErrRange}, {[]api.Grace{{Pitch: c4, Log: 3}, {Pitch: api.Pitch{Alter: 3}, Log: 3}}, api.ErrPitch},
	} {
		if e := event.CheckGraces(c.l); e != c.e || e != gracesError(c.l) {
			t.Errorf("%d: CheckGraces: error %d; want %d", i, e, c.e)
		}
	}
}

func TestP11_1Lyrics(t *testing.T) {
	long := strings.Repeat("x", 256)
	la := api.Syllable{Text: "la"}
	for i, c := range []struct {
		l []api.Syllable
		e api.Errno
	}{
		{nil, api.OK}, {[]api.Syllable{la, la, la, la}, api.OK}, {[]api.Syllable{la, la, la, la, la}, api.ErrLimit}, {make([]api.Syllable, 5), api.ErrLimit},
		{[]api.Syllable{{}, {}, {}, la}, api.OK}, {[]api.Syllable{{Link: 2}}, api.OK}, {[]api.Syllable{{Text: "la", Link: 1}}, api.OK}, {[]api.Syllable{{Text: "la", Link: 2}}, api.OK},
		{[]api.Syllable{{}}, api.ErrFormat}, {[]api.Syllable{la, {}}, api.ErrFormat}, {make([]api.Syllable, 4), api.ErrFormat}, {[]api.Syllable{{Link: 1}}, api.ErrFormat}, {[]api.Syllable{{Link: 1}, la}, api.ErrFormat},
		{[]api.Syllable{{Text: "la", Link: 3}}, api.ErrRange}, {[]api.Syllable{{Text: "la", Link: -1}}, api.ErrRange}, {[]api.Syllable{{Link: math.MinInt}}, api.ErrRange},
		{[]api.Syllable{{Text: long}}, api.OK}, {[]api.Syllable{{Text: long + "x"}}, api.ErrLong}, {[]api.Syllable{{Text: strings.Repeat("\u00e4", 128)}}, api.OK}, {[]api.Syllable{{Text: strings.Repeat("\u00e4", 128) + "x"}}, api.ErrLong},
		{[]api.Syllable{{Text: " "}}, api.OK}, {[]api.Syllable{{Text: "a\x1f"}}, api.ErrByte}, {[]api.Syllable{{Text: "\x00"}}, api.ErrByte}, {[]api.Syllable{{Text: "\x7fa"}}, api.ErrByte}, {[]api.Syllable{{Text: "a\nb"}}, api.ErrByte}, {[]api.Syllable{{Text: "~\x80\xff\u00e4"}}, api.OK}, {[]api.Syllable{{Text: "\xc3\x1f"}}, api.ErrByte},
		{[]api.Syllable{{Text: long + "\x00", Link: 3}}, api.ErrRange}, {[]api.Syllable{{Text: long + "\x00"}}, api.ErrLong}, {[]api.Syllable{la, {Text: "\x00"}, {Link: 1}}, api.ErrByte}, {[]api.Syllable{{Link: 1}, {Text: "\x00"}}, api.ErrFormat}, {[]api.Syllable{{Text: "\x00"}, {}}, api.ErrByte},
	} {
		if e := event.CheckLyrics(c.l); e != c.e || e != lyricsError(c.l) {
			t.Errorf("%d: CheckLyrics: error %d; want %d", i, e, c.e)
		}
	}
}

func TestP11_1AtRandom(t *testing.T) {
	found := map[[2]int]int{}
	events(t, func(r *rand.Rand, e api.Event) {
		h, g, s := event.CheckHeads(e.Heads), event.CheckGraces(e.Graces), event.CheckLyrics(e.Lyrics)
		if h != headsError(e.Heads) || g != gracesError(e.Graces) || s != lyricsError(e.Lyrics) {
			t.Fatalf("%v: errors %d, %d and %d", e, h, g, s)
		}
		found[[2]int{0, int(h)}]++
		found[[2]int{1, int(g)}]++
		found[[2]int{2, int(s)}]++
	})
	if len(found) != 6+4+6 {
		t.Errorf("not all errors were tested: %v", found)
	}
}

// changed returns the full event after a change.
func changed(change func(e *api.Event)) api.Event {
	e := full()
	change(&e)
	return e
}

func TestP11_2Chords(t *testing.T) {
	for i, c := range []struct {
		change func(e *api.Event)
		e      api.Errno
	}{
		{func(e *api.Event) {}, api.OK}, {func(e *api.Event) { e.ID = api.ID{} }, api.OK},
		{func(e *api.Event) { e.ID.Site = -1 }, api.ErrRange}, {func(e *api.Event) { e.ID.Site = 100 }, api.ErrRange}, {func(e *api.Event) { e.ID.Number = -1 }, api.ErrRange}, {func(e *api.Event) { e.ID.Number++ }, api.ErrRange},
		{func(e *api.Event) { e.Kind = 0 }, api.ErrKind}, {func(e *api.Event) { e.Kind = 5 }, api.ErrKind}, {func(e *api.Event) { e.Kind = math.MinInt }, api.ErrKind},
		{func(e *api.Event) { e.Kind = 2 }, api.ErrFormat}, {func(e *api.Event) { e.Kind = 3 }, api.ErrFormat}, {func(e *api.Event) { e.Kind = 4 }, api.ErrFormat},
		{func(e *api.Event) { e.Value.Log = 9 }, api.ErrValue}, {func(e *api.Event) { e.Value.Log = -2 }, api.ErrValue}, {func(e *api.Event) { e.Value.Dots = 4 }, api.ErrValue}, {func(e *api.Event) { e.Value.Dots = -1 }, api.ErrValue}, {func(e *api.Event) { e.Value = api.Value{} }, api.OK},
		{func(e *api.Event) { e.Heads = nil }, api.ErrShort}, {func(e *api.Event) { e.Heads[0].Show = 3 }, api.ErrRange}, {func(e *api.Event) { e.Heads[1].Pitch.Octave = 3 }, api.ErrOrder},
		{func(e *api.Event) { e.Graces[0].Pitch.Step = 7 }, api.ErrPitch}, {func(e *api.Event) { e.Graces[0].Log = 0 }, api.ErrRange}, {func(e *api.Event) { e.Graces = make([]api.Grace, 9) }, api.ErrLimit}, {func(e *api.Event) { e.Graces = []api.Grace{} }, api.OK},
		{func(e *api.Event) { e.Lyrics[1].Link = 1 }, api.ErrFormat}, {func(e *api.Event) { e.Lyrics[2].Link = 0 }, api.ErrFormat}, {func(e *api.Event) { e.Lyrics[0].Text = "\x01" }, api.ErrByte},
		{func(e *api.Event) { e.Articulations = 32 }, api.ErrRange}, {func(e *api.Event) { e.Articulations = -1 }, api.ErrRange}, {func(e *api.Event) { e.Articulations = 0 }, api.OK},
		{func(e *api.Event) { e.Ornament = 5 }, api.ErrRange}, {func(e *api.Event) { e.Ornament = -1 }, api.ErrRange}, {func(e *api.Event) { e.Dynamic = 10 }, api.ErrRange}, {func(e *api.Event) { e.Dynamic = -1 }, api.ErrRange},
		{func(e *api.Event) { e.Stem = 3 }, api.ErrRange}, {func(e *api.Event) { e.Stem = -1 }, api.ErrRange}, {func(e *api.Event) { e.Beam = 3 }, api.ErrRange}, {func(e *api.Event) { e.Beam = -1 }, api.ErrRange},
		// Of several errors, the first one is returned.
		{func(e *api.Event) { e.ID.Site, e.Kind = -1, 0 }, api.ErrRange}, {func(e *api.Event) { e.Kind, e.Value.Log = 2, 9 }, api.ErrFormat}, {func(e *api.Event) { e.Value.Log, e.Heads = 9, nil }, api.ErrValue}, {func(e *api.Event) { e.Heads, e.Graces[0].Log = nil, 0 }, api.ErrShort}, {func(e *api.Event) { e.Graces[0].Pitch.Step, e.Lyrics[2].Link = 7, 0 }, api.ErrPitch}, {func(e *api.Event) { e.Lyrics[2].Link, e.Stem = 0, 3 }, api.ErrFormat},
	} {
		e := changed(c.change)
		if err := event.Check(e); err != c.e || err != errorOf(e) {
			t.Errorf("%d: Check(%v): error %d; want %d", i, e, err, c.e)
		}
	}
}

func TestP11_2Others(t *testing.T) {
	for i, c := range []struct {
		e   api.Event
		err api.Errno
	}{
		{api.Event{}, api.ErrKind}, {api.Event{Kind: 2}, api.OK}, {api.Event{Kind: 3}, api.OK}, {api.Event{Kind: 4}, api.OK}, {api.Event{Kind: 1}, api.ErrShort},
		{api.Event{Kind: 2, Value: quarter, Dynamic: 9, Articulations: 16}, api.OK}, {api.Event{Kind: 3, Dynamic: 1, Articulations: 16}, api.OK}, {api.Event{Kind: 4, Value: quarter, Dynamic: 6}, api.OK},
		{api.Event{Kind: 3, Value: quarter}, api.ErrFormat}, {api.Event{Kind: 3, Value: api.Value{Dots: 1}}, api.ErrFormat}, {api.Event{Kind: 2, Value: api.Value{Log: 9}}, api.ErrValue}, {api.Event{Kind: 4, Value: api.Value{Log: 9}}, api.ErrValue},
		{api.Event{Kind: 4, Articulations: 16}, api.ErrFormat}, {api.Event{Kind: 4, Articulations: 1}, api.ErrFormat}, {api.Event{Kind: 4, Articulations: -16}, api.ErrFormat},
		{api.Event{Kind: 2, Articulations: 1}, api.ErrFormat}, {api.Event{Kind: 2, Articulations: 17}, api.ErrFormat}, {api.Event{Kind: 2, Articulations: 48}, api.ErrFormat}, {api.Event{Kind: 2, Articulations: -1}, api.ErrFormat}, {api.Event{Kind: 3, Articulations: -16}, api.ErrFormat}, {api.Event{Kind: 3, Articulations: 8}, api.ErrFormat}, {api.Event{Kind: 2, Articulations: math.MinInt}, api.ErrFormat},
		{api.Event{Kind: 2, Heads: heads("C4")}, api.ErrFormat}, {api.Event{Kind: 3, Heads: heads("C4")}, api.ErrFormat}, {api.Event{Kind: 4, Heads: heads("C4")}, api.ErrFormat}, {api.Event{Kind: 2, Graces: []api.Grace{{}}}, api.ErrFormat}, {api.Event{Kind: 2, Lyrics: []api.Syllable{{}}}, api.ErrFormat},
		{api.Event{Kind: 2, Ornament: 1}, api.ErrFormat}, {api.Event{Kind: 2, Ornament: -1}, api.ErrFormat}, {api.Event{Kind: 3, Stem: 1}, api.ErrFormat}, {api.Event{Kind: 4, Stem: 1}, api.ErrFormat}, {api.Event{Kind: 4, Beam: 1}, api.ErrFormat}, {api.Event{Kind: 2, Beam: 9}, api.ErrFormat},
		{api.Event{Kind: 2, Heads: []api.Head{}, Graces: []api.Grace{}, Lyrics: []api.Syllable{}}, api.OK},
		{api.Event{Kind: 2, Dynamic: 10}, api.ErrRange}, {api.Event{Kind: 3, Dynamic: -1}, api.ErrRange}, {api.Event{Kind: 4, Dynamic: math.MaxInt}, api.ErrRange}, {api.Event{Kind: 2, Dynamic: 10, Value: api.Value{Log: 9}}, api.ErrValue}, {api.Event{ID: api.ID{Number: -1}, Kind: 9}, api.ErrRange},
	} {
		if err := event.Check(c.e); err != c.err || err != errorOf(c.e) {
			t.Errorf("%d: Check(%v): error %d; want %d", i, c.e, err, c.err)
		}
	}
}

func TestP11_2AtRandom(t *testing.T) {
	found := map[[2]int]int{}
	events(t, func(r *rand.Rand, e api.Event) {
		err := event.Check(e)
		if want := errorOf(e); err != want {
			t.Fatalf("Check(%v): error %d; want %d", e, err, want)
		}
		if e.Kind >= 1 && e.Kind <= 4 {
			found[[2]int{e.Kind, int(err)}]++
		}
	})
	for key, least := range map[[2]int]int{{1, 0}: 500, {2, 0}: 500, {3, 0}: 500, {4, 0}: 500, {1, 2}: 1, {1, 4}: 1, {1, 17}: 1, {1, 9}: 1, {1, 18}: 1, {1, 25}: 1, {1, 6}: 1, {1, 5}: 1, {1, 3}: 1, {2, 3}: 1, {3, 3}: 1, {4, 3}: 1, {2, 17}: 1, {4, 2}: 1} {
		if found[key] < least {
			t.Errorf("the kind %d had the error %d only %d times", key[0], key[1], found[key])
		}
	}
}
