package voice_test

import (
	"math"
	"math/rand"
	"testing"

	"hemiola/api"
	"hemiola/event"
	"hemiola/metre"
	"hemiola/voice"
)

// badMetre is no time signature: its error is ErrValue.
var badMetre = api.Metre{Count: 4, Unit: 5}

func TestP12_4Notes(t *testing.T) {
	four, six := must(metre.Parse("4/4")), must(metre.Parse("6/8"))
	for i, c := range []struct {
		x        string
		m        api.Metre
		from, to int
		want     string
	}{
		{"7=C4+E4:4~!?^", four, 0, whole, "7=C4+E4:1~!?^"}, {"7=C4:4!?^", four, quarter, whole, "7=C4:4~!?^ C4:2^"}, {"7=C4:4~!?^", four, quarter, whole, "7=C4:4~!?^ C4:2~^"}, {"7=C4:4", four, quarter, whole + quarter, "7=C4:4~ C4:2~ C4:4"},
		{"7=C4+E4:4!?", six, 0, 4 * eighth, "7=C4+E4:4.~!? C4+E4:8"}, {"7=r:16!", six, 0, 4 * eighth, "7=r:4.! r:8"}, {"7=s:b", six, eighth, 3 * eighth, "7=s:4"}, {"r:1", four, finest, 2 * finest, "r:256"}, {"C4:1", four, 0, 0, ""}, {"C4:1~", four, 5 * finest, 5 * finest, ""},
		{"C4:1", four, 0, 8 * whole, "C4:1~ C4:1~ C4:1~ C4:1~ C4:1~ C4:b."}, {"C4:1", four, whole - sixteenth, whole, "C4:16"},
	} {
		x := readEvent(c.x)
		if got, e := voice.Notes(x, c.m, c.from, c.to); e != api.OK || !equal(api.Voice{Events: got}, read(c.want)) {
			t.Errorf("%d: Notes(%s, %v, %d, %d) = %v, error %d; want %s", i, c.x, c.m, c.from, c.to, got, e, c.want)
		}
	}
	// Of the heads of a further note, each keeps its tie.
	x := readEvent("7=C4+E4:4!?")
	x.Heads[1].Tied = true
	got, e := voice.Notes(x, four, quarter, whole)
	if e != api.OK || len(got) != 2 || !got[0].Heads[0].Tied || !got[0].Heads[1].Tied || got[1].Heads[0].Tied || !got[1].Heads[1].Tied || got[1].Heads[1].Show != 0 {
		t.Errorf("Notes of a chord with one tied head = %v, error %d", got, e)
	}
}

// TestP12_4Full tests that a further note has nothing but a kind, a value, a stem and heads.
func TestP12_4Full(t *testing.T) {
	c4 := api.Pitch{Octave: 4}
	x := api.Event{ID: api.ID{Site: 2, Number: 3}, Kind: 1, Value: api.Value{Log: 5}, Heads: []api.Head{{Pitch: c4, Show: 2}}, Graces: []api.Grace{{Pitch: c4, Log: 2}}, Articulations: 31, Ornament: 3, Dynamic: 8, Lyrics: []api.Syllable{{Text: "la"}}, Stem: 2, Beam: 1}
	first, last := event.Clone(x), api.Event{Kind: 1, Value: api.Value{Log: 1}, Heads: []api.Head{{Pitch: c4}}, Stem: 2}
	first.Value, first.Heads[0].Tied = api.Value{Log: 2}, true
	got, e := voice.Notes(x, must(metre.Parse("4/4")), quarter, whole)
	if e != api.OK || !equal(api.Voice{Events: got}, api.Voice{Events: []api.Event{first, last}}) {
		t.Errorf("Notes(%v) = %v, error %d", x, got, e)
	}
}

func TestP12_4Errors(t *testing.T) {
	four := must(metre.Parse("4/4"))
	note := readEvent("C4:4")
	for i, c := range []struct {
		x        api.Event
		m        api.Metre
		from, to int
		e        api.Errno
	}{
		{api.Event{}, badMetre, -1, 5, api.ErrKind}, {api.Event{Kind: 1}, badMetre, -1, 5, api.ErrShort}, {api.Event{Kind: 3}, badMetre, -1, 5, api.ErrKind}, {api.Event{Kind: 3, Value: api.Value{Log: 2}}, four, 0, whole, api.ErrFormat}, {api.Event{Kind: 3}, four, 0, whole, api.ErrKind},
		{note, badMetre, -1, 5, api.ErrValue}, {note, api.Metre{}, 0, whole, api.ErrRange}, {note, api.Metre{Count: 4, Unit: 4, Groups: [6]int{4}}, 0, whole, api.ErrMetre}, {note, four, -1, 0, api.ErrRange}, {note, four, whole, 0, api.ErrRange}, {note, four, 0, api.MaxTime + 1, api.ErrRange}, {note, four, math.MinInt, math.MaxInt, api.ErrRange}, {note, four, 1, 1, api.ErrTick}, {note, four, 0, 5, api.ErrTick}, {note, four, 0, 8*whole + finest, api.ErrLong},
	} {
		got, e := voice.Notes(c.x, c.m, c.from, c.to)
		if len(got) > 0 || e != c.e {
			t.Errorf("%d: Notes = %v, error %d; want error %d", i, got, e, c.e)
		}
		if event.Check(c.x) != api.OK || c.x.Kind == 3 {
			continue
		}
		if got, e := voice.Rests(c.m, c.from, c.to); len(got) > 0 || e != c.e {
			t.Errorf("%d: Rests = %v, error %d; want error %d", i, got, e, c.e)
		}
	}
}

func TestP12_4AtRandom(t *testing.T) {
	r := source{rand.New(rand.NewSource(4))}
	for range 4000 {
		p := r.place()
		v := r.voice(p.Length)
		x := pick(r, v.Events...)
		from, to := r.tick(v, p), r.tick(v, p)
		kept := event.Clone(x)
		want, f := notesOf(x, p.Metre, from, to)
		got, e := voice.Notes(x, p.Metre, from, to)
		if e != f || !equal(api.Voice{Events: got}, api.Voice{Events: want}) {
			t.Fatalf("Notes(%v, %v, %d, %d) = %v, error %d; want %v, error %d", x, p.Metre, from, to, got, e, want, f)
		}
		if spoil(api.Voice{Events: got}); !event.Equal(x, kept) {
			t.Fatalf("Notes retains or changes %v", kept)
		}
		rests, f := notesOf(api.Event{Kind: api.Rest}, p.Metre, from, to)
		if got, e := voice.Rests(p.Metre, from, to); e != f || !equal(api.Voice{Events: got}, api.Voice{Events: rests}) {
			t.Fatalf("Rests(%v, %d, %d) = %v, error %d; want %v, error %d", p.Metre, from, to, got, e, rests, f)
		}
	}
}

func TestP12_4Rests(t *testing.T) {
	for i, c := range []struct {
		m        string
		from, to int
		want     string
	}{
		{"3/4", quarter, 3 * quarter, "r:2"}, {"4/4", 0, 3 * quarter, "r:2."}, {"4/4", quarter, whole, "r:4 r:2"}, {"6/8", 0, 4 * eighth, "r:4. r:8"}, {"4/4", whole - eighth, whole + quarter, "r:8 r:4"}, {"4/4", 0, 0, ""}, {"2+2+3/8", 0, 7 * eighth, "r:2.."},
	} {
		if got, e := voice.Rests(must(metre.Parse(c.m)), c.from, c.to); e != api.OK || !equal(api.Voice{Events: got}, read(c.want)) {
			t.Errorf("%d: Rests(%s, %d, %d) = %v, error %d; want %s", i, c.m, c.from, c.to, got, e, c.want)
		}
	}
}
