package check_test

import (
	"reflect"
	"slices"
	"strings"
	"testing"

	"hemiola/api"
	"hemiola/check"
	"hemiola/sample"
	"hemiola/score"
)

var names = []string{"limits", "ids", "structure", "clefs", "metres", "voices", "tuplets", "events", "pitches", "ties", "lyrics", "ends", "nesting", "repeats", "jumps", "tempi", "margins"}

func TestP16_3Names(t *testing.T) {
	for i, rule := range []int{check.Limits, check.Ids, check.Structure, check.Clefs, check.Metres, check.Voices, check.Tuplets, check.Events, check.Pitches, check.Ties, check.Lyrics, check.Ends, check.Nesting, check.Repeats, check.Jumps, check.Tempi, check.Margins} {
		if rule != i+1 {
			t.Errorf("the rule %s has the number %d", names[i], rule)
		}
	}
	for i, name := range names {
		if got, e := check.Name(i + 1); got != name || e != api.OK {
			t.Errorf("Name(%d) = %q, error %d", i+1, got, e)
		}
		if rule, e := check.Find(name); rule != i+1 || e != api.OK {
			t.Errorf("Find(%q) = %d, error %d", name, rule, e)
		}
		if got := check.Text(api.Violation{Rule: i + 1}); got != name {
			t.Errorf("Text = %q; want %q", got, name)
		}
		if got := check.Text(api.Violation{Rule: i + 1, Object: api.ID{Number: 2}}); got != name+" @0.2" {
			t.Errorf("Text = %q; want %q", got, name+" @0.2")
		}
	}
	for _, rule := range []int{0, 18, -1, 1 << 62} {
		if name, e := check.Name(rule); name != "" || e != api.ErrKind {
			t.Errorf("Name(%d) = %q, error %d", rule, name, e)
		}
		if l, e := check.Rule(api.Score{}, rule); len(l) != 0 || e != api.ErrKind {
			t.Errorf("Rule(%d) = %v, error %d", rule, l, e)
		}
		if s := check.Text(api.Violation{Rule: rule, Object: api.ID{Number: 2}}); s != "" {
			t.Errorf("Text of the rule %d = %q", rule, s)
		}
	}
	for _, name := range []string{"", "limit", "Limits", "limits ", "margins\x00"} {
		if rule, e := check.Find(name); rule != 0 || e != api.ErrNotFound {
			t.Errorf("Find(%q) = %d, error %d", name, rule, e)
		}
	}
	for object, want := range map[api.ID]string{{Site: 3}: "ids @3.0", {Site: -1, Number: 12}: "ids @-1.12", {Site: 99, Number: 1 << 30}: "ids @99.1073741824"} {
		if got := check.Text(api.Violation{Rule: check.Ids, Object: object}); got != want {
			t.Errorf("Text = %q; want %q", got, want)
		}
	}
}

// fixed returns a valid score with two parts of one and two staves, whose objects have the ids 1 to 5. It has two measures with the ids 6 and 17; their events have the ids 7 to 9 and 10 (of two voices), 11 to 15, and 16, and 18, 19, 20 and 21.
func fixed() api.Score {
	return sample.Read("12", "4/4 : @0=2 @967680=1 C4~:2 C4+E4:4/la-//oh_ r:4 | R ; D4:4 (3:2 E4:4 F4:4 G4:4 ) r:4 ; R", "3/4 k-2 : C4:2./la//_ ; R ; R | r:2.")
}

// eventIn returns an event of a score, so that it can be changed.
func eventIn(s *api.Score, measure, staff, voice, index int) *api.Event {
	return &s.Measures[measure].Cells[staff].Voices[voice].Events[index]
}

// try checks a changed copy of fixed.
func try(t *testing.T, want string, change func(s *api.Score)) {
	t.Helper()
	s := fixed()
	change(&s)
	before := text(s)
	if got := texts(check.Check(s)); got != want {
		t.Errorf("Check = %q; want %q", got, want)
	}
	if text(s) != before {
		t.Error("Check has changed the score")
	}
}

func TestP16_1Limits(t *testing.T) {
	try(t, "", func(s *api.Score) {})
	for _, bad := range []string{"\x00", "a\x1f", "\x7f", strings.Repeat("a", 257), strings.Repeat("é", 128) + "a", "\xff\n"} {
		try(t, "limits", func(s *api.Score) { s.Title = bad })
		try(t, "limits @0.3", func(s *api.Score) { s.Parts[1].Name = bad })
		try(t, "limits @0.17", func(s *api.Score) { s.Measures[1].Rehearsal = bad })
	}
	for _, good := range []string{strings.Repeat("a", 256), strings.Repeat("é", 128), " ~\x80\xff"} {
		try(t, "", func(s *api.Score) { s.Title, s.Parts[0].Name, s.Measures[0].Rehearsal = good, good, good })
	}
	try(t, "limits", func(s *api.Score) { *s = api.Score{} })
	try(t, "limits", func(s *api.Score) { s.Measures = nil })
	try(t, "limits @0.1", func(s *api.Score) { s.Parts[0].Staves = nil })
	try(t, "limits @0.1", func(s *api.Score) { s.Parts[0].Staves = make([]api.Staff, 5) })
	try(t, "limits @0.1, limits @0.3", func(s *api.Score) {
		s.Parts[0].Transpose.Steps = 78
		s.Parts[1].Transpose.Semitones = -141
	})
	try(t, "limits @0.6, limits @0.17", func(s *api.Score) {
		s.Measures[0].Tempi = make([]api.TempoMark, 65)
		s.Measures[1].Cells[2].Clefs = make([]api.ClefChange, 65)
	})
	try(t, "limits @0.6", func(s *api.Score) { s.Measures[0].Cells[1].Voices = make([]api.Voice, 3) })
	try(t, "limits @0.6", func(s *api.Score) { s.Measures[0].Cells[2].Voices[0].Events = make([]api.Event, 129) })
	try(t, "limits @0.6", func(s *api.Score) { s.Measures[0].Cells[2].Voices[0].Tuplets = make([]api.Tuplet, 17) })
	// If a limit is exceeded, nothing else is looked at; within it, everything is.
	try(t, "limits @0.1, limits", func(s *api.Score) {
		s.Title, s.Parts[0].Name = "\n", "\n"
		s.Parts[1].ID, s.Measures[0].Metre = api.ID{}, api.Metre{}
	})
	within := func(change func(s *api.Score)) {
		t.Helper()
		s := fixed()
		change(&s)
		if l, _ := check.Rule(s, check.Limits); len(l) != 0 {
			t.Errorf("limits are exceeded: %s", texts(l))
		}
	}
	within(func(s *api.Score) { s.Parts = slices.Repeat(s.Parts[:1], 32) })
	within(func(s *api.Score) { s.Parts[0].Staves = make([]api.Staff, 4) })
	within(func(s *api.Score) { s.Parts[0].Transpose = api.Interval{Steps: 77, Semitones: -140} })
	within(func(s *api.Score) { s.Measures = slices.Repeat(s.Measures[:1], 1024) })
	within(func(s *api.Score) { s.Spanners = make([]api.Spanner, 4096) })
	within(func(s *api.Score) { s.Last = make([]api.ID, 100) })
	within(func(s *api.Score) { s.Measures[0].Tempi = make([]api.TempoMark, 64) })
	within(func(s *api.Score) { s.Measures[0].Cells[0].Clefs = make([]api.ClefChange, 64) })
	within(func(s *api.Score) { s.Measures[0].Cells[0].Voices = make([]api.Voice, 2) })
	within(func(s *api.Score) { s.Measures[0].Cells[0].Voices[0].Events = make([]api.Event, 128) })
	within(func(s *api.Score) { s.Measures[0].Cells[0].Voices[0].Tuplets = make([]api.Tuplet, 16) })
	try(t, "limits", func(s *api.Score) { s.Parts = slices.Repeat(s.Parts[:1], 33) })
	try(t, "limits", func(s *api.Score) { s.Measures = slices.Repeat(s.Measures[:1], 1025) })
	try(t, "limits", func(s *api.Score) { s.Spanners = make([]api.Spanner, 4097) })
	try(t, "limits", func(s *api.Score) { s.Last = make([]api.ID, 101) })
}

func TestP16_1Ids(t *testing.T) {
	for id, bad := range map[api.ID]bool{{}: true, {Site: 1}: true, {Number: -1}: true, {Site: -1, Number: 1}: true, {Site: 100, Number: 1}: true, {Site: 1, Number: 1}: true, {Number: 22}: true, {Number: 20}: true, {Site: 3, Number: 8}: true, {Site: 3, Number: 7}: false, {Site: 99, Number: 1 << 30}: false, {Site: 99, Number: 1<<30 + 1}: true} {
		want := ""
		if bad {
			want = check.Text(api.Violation{Rule: check.Ids, Object: id})
		}
		last := []api.ID{{Number: 21}, {Site: 3, Number: 7}, {Site: 99, Number: 1 << 30}}
		try(t, want, func(s *api.Score) { s.Last, s.Parts[1].Staves[1].ID = last, id })
		if id.Site < 0 || id.Site > 99 || id.Number < 0 || id.Number > 1<<30 {
			want += strings.Replace(", "+want, "ids", "events", 1)
		}
		try(t, want, func(s *api.Score) { s.Last, eventIn(s, 1, 2, 1, 0).ID = last, id })
	}
	try(t, "ids @0.1, ids @0.1", func(s *api.Score) { s.Measures[0].ID.Number, eventIn(s, 1, 2, 1, 0).ID.Number = 1, 1 })
	slur := api.Spanner{Kind: api.Slur, From: api.ID{Number: 7}, To: api.ID{Number: 8}}
	try(t, "ids", func(s *api.Score) { s.Spanners = []api.Spanner{slur} })
	try(t, "ids @0.14", func(s *api.Score) {
		slur.ID.Number = 14
		s.Spanners = []api.Spanner{slur}
	})
	for _, last := range [][]api.ID{{{Number: 30}, {Number: 31}}, {{Number: 30}, {Site: 3, Number: 1}, {Site: 2, Number: 1}}, {{Number: 30}, {Site: 1}}, {{Number: 30}, {Site: 100, Number: 1}}, {{Site: -1, Number: 1}, {Number: 30}}, {{Number: 30}, {Site: 1, Number: 1<<30 + 1}}, {{Number: 1<<30 + 1}}, {{Number: 30}, {Site: 3, Number: 1}, {Site: 3, Number: 1}, {Site: 2, Number: 1}}} {
		try(t, "ids", func(s *api.Score) { s.Last = last })
	}
	try(t, "", func(s *api.Score) {
		s.Last = []api.ID{{Number: 30}, {Site: 1, Number: 1 << 30}, {Site: 98, Number: 1}, {Site: 99, Number: 5}}
	})
	// Of several elements of a site the first one counts, and the score violates the rule after its objects.
	try(t, "ids @0.21, ids", func(s *api.Score) { s.Last = []api.ID{{Number: 20}, {Number: 30}} })
}

func TestP16_1Structure(t *testing.T) {
	try(t, "structure @0.6", func(s *api.Score) {
		s.Measures[0].Cells = append(s.Measures[0].Cells, api.Cell{Voices: []api.Voice{{Events: []api.Event{{ID: api.ID{Number: 22}, Kind: api.MeasureRest}}}}})
		s.Last[0].Number = 22
	})
	try(t, "structure @0.17", func(s *api.Score) { s.Measures[1].Cells = s.Measures[1].Cells[1:] })
	try(t, "structure @0.6, structure @0.17", func(s *api.Score) { s.Measures[0].Cells[1].Voices, s.Measures[1].Cells[2].Voices = nil, []api.Voice{} })
	try(t, "structure @0.17", func(s *api.Score) { s.Measures[1].Cells[2].Voices[0] = api.Voice{} })
	try(t, "structure @0.17", func(s *api.Score) { s.Measures[1].Cells[2].Voices[1].Events = nil })
	try(t, "structure @0.17, tuplets @0.17", func(s *api.Score) {
		s.Measures[1].Cells[2].Voices[1] = api.Voice{Tuplets: []api.Tuplet{{Count: 1, Actual: 3, Normal: 2}}}
	})
}

func TestP16_1Clefs(t *testing.T) {
	try(t, "clefs @0.2, clefs @0.5", func(s *api.Score) { s.Parts[0].Staves[0].Clef, s.Parts[1].Staves[1].Clef = -1, 10 })
	clefs := func(l ...api.ClefChange) func(s *api.Score) {
		return func(s *api.Score) { s.Measures[1].Cells[1].Clefs = l }
	}
	try(t, "", clefs(api.ClefChange{At: 0, Clef: 9}, api.ClefChange{At: 1, Clef: 1}, api.ClefChange{At: 1451519, Clef: 1}))
	for _, l := range [][]api.ClefChange{{{At: 0, Clef: 10}}, {{At: 0, Clef: -1}}, {{At: -1, Clef: 1}}, {{At: 1451520, Clef: 1}}, {{At: 5, Clef: 1}, {At: 5, Clef: 1}}, {{At: 5, Clef: 1}, {At: 4, Clef: 1}}} {
		try(t, "clefs @0.17", clefs(l...))
		// A measure without a length violates only the rule of metres.
		try(t, "metres @0.17", func(s *api.Score) {
			clefs(l...)(s)
			s.Measures[1].Length = -1
		})
	}
}

func TestP16_1Metres(t *testing.T) {
	for i, change := range []func(m *api.Measure){
		func(m *api.Measure) { m.Metre.Unit = 3 }, func(m *api.Measure) { m.Metre.Groups = [6]int{1, 1} }, func(m *api.Measure) { m.Length = -1 }, func(m *api.Measure) { m.Length = 1 }, func(m *api.Measure) { m.Length = 8*api.Whole + 7560 }, func(m *api.Measure) { m.Fifths = 8 }, func(m *api.Measure) { m.Fifths = -8 },
	} {
		for _, written := range []bool{false, true} {
			s := fixed()
			s.Written = written
			change(&s.Measures[1])
			if got := texts(check.Check(s)); got != "metres @0.17" {
				t.Errorf("%d: Check = %q", i, got)
			}
		}
	}
	try(t, "", func(s *api.Score) { s.Measures[0].Fifths, s.Measures[1].Fifths = -7, 7 })
	// Voices that do not fill a measure without a length do not matter.
	try(t, "metres @0.17", func(s *api.Score) {
		s.Measures[1].Length = -1
		s.Measures[1].Cells[0].Voices[0].Events = s.Measures[1].Cells[0].Voices[0].Events[:1]
		s.Measures[1].Cells[0].Voices[0].Tuplets = make([]api.Tuplet, 1)
	})
}

func TestP16_1Voices(t *testing.T) {
	try(t, "voices @0.6", func(s *api.Score) { eventIn(s, 0, 0, 0, 2).Value.Log = 3 })
	try(t, "voices @0.6", func(s *api.Score) {
		*eventIn(s, 0, 1, 0, 0) = api.Event{ID: api.ID{Number: 11}, Kind: api.MeasureRest}
	})
	try(t, "tuplets @0.6", func(s *api.Score) { s.Measures[0].Cells[1].Voices[0].Tuplets[0].Count = 9 })
	try(t, "tuplets @0.6", func(s *api.Score) { s.Measures[0].Cells[1].Voices[0].Tuplets[0].Actual = 13 })
	try(t, "tuplets @0.6", func(s *api.Score) {
		s.Measures[0].Cells[2].Voices[0].Tuplets = []api.Tuplet{{Count: 1, Actual: 3, Normal: 2}}
	})
	// Different voices of a measure can violate both rules.
	try(t, "voices @0.6, tuplets @0.6", func(s *api.Score) {
		eventIn(s, 0, 0, 0, 2).Value.Log = 3
		s.Measures[0].Cells[1].Voices[0].Tuplets[0].Count = 9
	})
	// A voice with a malformed event violates only the rule of events.
	try(t, "events @0.9", func(s *api.Score) {
		*eventIn(s, 0, 0, 0, 2) = api.Event{ID: api.ID{Number: 9}, Kind: api.Rest, Stem: 1}
	})
	try(t, "voices @0.6, events @0.9", func(s *api.Score) {
		*eventIn(s, 0, 0, 0, 2) = api.Event{ID: api.ID{Number: 9}, Kind: api.Rest, Stem: 1}
		eventIn(s, 0, 1, 0, 0).Value.Log = 1
	})
	try(t, "tuplets @0.6, events @0.9", func(s *api.Score) {
		*eventIn(s, 0, 0, 0, 2) = api.Event{ID: api.ID{Number: 9}, Kind: api.Rest, Stem: 1}
		s.Measures[0].Cells[1].Voices[0].Tuplets[0].Count = 9
	})
}

func TestP16_1Pitches(t *testing.T) {
	high, low := api.Pitch{Step: 4, Octave: 9}, api.Pitch{Step: 0, Octave: -1} // the numbers 127 and 0
	set := func(written bool, semitones int, p api.Pitch) func(s *api.Score) {
		return func(s *api.Score) {
			s.Written, s.Parts[1].Transpose.Semitones = written, semitones
			eventIn(s, 0, 1, 0, 0).Heads[0].Pitch = p
		}
	}
	for _, c := range []struct {
		written   bool
		semitones int
		p         api.Pitch
		want      string
	}{
		{false, 0, high, ""}, {false, 0, low, ""}, {false, 1, high, "pitches @0.11"}, {false, -1, high, ""}, {false, 1, low, ""}, {false, -1, low, "pitches @0.11"},
		{true, 1, high, ""}, {true, -1, high, "pitches @0.11"}, {true, 1, low, "pitches @0.11"}, {true, -1, low, ""},
	} {
		try(t, c.want, set(c.written, c.semitones, c.p))
		// The transposition of another part does not matter.
		try(t, "", func(s *api.Score) {
			set(c.written, c.semitones, c.p)(s)
			s.Parts[0].Transpose, s.Parts[1].Transpose = s.Parts[1].Transpose, api.Interval{}
		})
		try(t, c.want, func(s *api.Score) {
			set(c.written, c.semitones, api.Pitch{Octave: 4})(s)
			eventIn(s, 0, 1, 0, 0).Graces = []api.Grace{{Pitch: api.Pitch{Octave: 4}, Log: 3}, {Pitch: c.p, Log: 3}}
		})
	}
	try(t, "structure @0.3", func(s *api.Score) { *s = sample.Read("1", "4/4 : R ; C-1+G9:1") })
	// A cell beyond the staves belongs to no part, and a malformed event is not looked at.
	try(t, "structure @0.3", func(s *api.Score) {
		*s = sample.Read("1", "4/4 : R ; C4:1")
		s.Parts[0].Transpose.Semitones = 100
	})
	try(t, "events @0.11", func(s *api.Score) {
		set(false, 100, high)(s)
		eventIn(s, 0, 1, 0, 0).Dynamic = 10
		for i := 1; i < 5; i++ {
			x := eventIn(s, 0, 1, 0, i)
			*x = api.Event{ID: x.ID, Kind: api.Rest, Value: x.Value}
		}
	})
}

func TestP16_1Ties(t *testing.T) {
	try(t, "ties @0.8", func(s *api.Score) { eventIn(s, 0, 0, 0, 1).Heads[0].Tied = true })
	try(t, "ties @0.7", func(s *api.Score) { eventIn(s, 0, 0, 0, 1).Heads[0].Pitch = api.Pitch{Step: 6, Alter: 1, Octave: 3} })
	try(t, "ties @0.18", func(s *api.Score) { eventIn(s, 1, 0, 0, 0).Heads[0].Tied = true })
	try(t, "ties @0.11", func(s *api.Score) { eventIn(s, 0, 1, 0, 0).Heads[0].Tied = true })
	// A tie over a barline needs the same voice there.
	try(t, "", func(s *api.Score) {
		*s = sample.Read("1", "4/4 : C4~:1 | E4:1", "4/4 : C4:1")
	})
	try(t, "ties @0.5", func(s *api.Score) {
		*s = sample.Read("1", "4/4 : C4~:1 | E4~:1", "4/4 : C4+E4:1")
	})
	try(t, "ties @0.4", func(s *api.Score) {
		*s = sample.Read("1", "4/4 : C4~+E4~:1", "4/4 : C4:1", "4/4 : C4+E4:1")
	})
	// The rules from ties on are left out if one before them is violated, and only then.
	try(t, "ids @0.20", func(s *api.Score) {
		eventIn(s, 0, 0, 0, 1).Heads[0].Tied = true
		s.Measures[0].Jump, s.Measures[0].ID.Number = 9, 20
	})
	try(t, "ties @0.8, jumps @0.6", func(s *api.Score) {
		eventIn(s, 0, 0, 0, 1).Heads[0].Tied = true
		s.Measures[0].Jump = 9
	})
}

func TestP16_1Lyrics(t *testing.T) {
	// Each word is the lyrics of a chord; the measures are divided by bars, and "." is a rest. The objects are 1 to 3, then the measures with their events.
	for _, c := range []struct{ measures, want string }{
		{"a b a- b", ""}, {"a- . a- b", ""}, {"a a- | . b", ""}, {"a- b- c- d", ""}, {"a- //b", "lyrics @0.4"}, {"a-/x b/y", ""}, {"a-/x- b/y", ""}, {"a-/x- b", "lyrics @0.4"}, {"a- | .", "lyrics @0.4"},
		{"a- b-", "lyrics @0.5"}, {"a- _", "lyrics @0.4, lyrics @0.5"}, {"a_ _ _ b", ""}, {"a_ b _", "lyrics @0.6"}, {"_", "lyrics @0.4"}, {"a_ . . | _ . _", ""}, {"a _", "lyrics @0.5"}, {"a_ /b _/c", ""}, {"a_/x a/_ _", "lyrics @0.5, lyrics @0.6"}, {"a_ a- _ b", "lyrics @0.5, lyrics @0.6"}, {"a_", ""}, {"a-/_", "lyrics @0.4"},
		{"/_ a-/_", "lyrics @0.4, lyrics @0.5"}, {"/a_ b-/_ c/_", ""},
	} {
		var measures []string
		for bar := range strings.SplitSeq(c.measures, "|") {
			text := "8/4 :"
			words := strings.Fields(bar)
			for _, word := range words {
				if word == "." {
					text += " r:4"
				} else {
					text += " C4:4/" + word
				}
			}
			measures = append(measures, text+strings.Repeat(" r:4", 8-len(words)))
		}
		s := sample.Read("1", measures...)
		for _, m := range s.Measures {
			for _, x := range m.Cells[0].Voices[0].Events {
				if x.Kind == api.Rest && len(x.Lyrics) > 0 {
					t.Fatal("a rest has lyrics")
				}
			}
		}
		if got := texts(check.Check(s)); got != c.want {
			t.Errorf("%q: Check = %q; want %q", c.measures, got, c.want)
		}
	}
	// The verses of voices and staves are different ones, and a voice that pauses goes on.
	for _, c := range []struct {
		measures []string
		want     string
	}{
		{[]string{"1/4 : C4:4/a- | C4:4/b ; C4:4/b"}, "lyrics @0.6"}, {[]string{"1/4 : C4:4 | C4:4/a- ; R", "1/4 : C4:4 ; R", "1/4 : C4:4 | C4:4/b ; R"}, ""}, {[]string{"1/4 : C4:4/a_ ; C4:4/a", "1/4 : R ; C4:4/_", "1/4 : C4:4/_ ; R"}, "lyrics @0.10"},
	} {
		if got := texts(check.Check(sample.Read("11", c.measures...))); got != c.want {
			t.Errorf("%q: Check = %q; want %q", c.measures, got, c.want)
		}
	}
}

func TestP16_1Spanners(t *testing.T) {
	// The events of the first staff are 7 to 10, 11 in the other voice, and 15 to 18; those of the others are 12, 13, 19 and 20.
	s := sample.Read("12", "4/4 : C4:4 C4:4 C4:4 C4:4 | R ; R ; R", "4/4 : C4:4 C4:4 C4:4 C4:4 ; R ; R")
	for _, c := range []struct {
		spans []api.Spanner
		want  string
	}{
		{[]api.Spanner{{Kind: 1, From: api.ID{Number: 7}, To: api.ID{Number: 8}}, {Kind: 7, From: api.ID{Number: 7}, To: api.ID{Number: 17}}, {Kind: 2, From: api.ID{Number: 11}, To: api.ID{Number: 17}}}, ""},
		{[]api.Spanner{{Kind: 1, From: api.ID{Number: 8}, To: api.ID{Number: 7}}}, "ends @0.21"}, {[]api.Spanner{{Kind: 1, From: api.ID{Number: 8}, To: api.ID{Number: 8}}}, "ends @0.21"}, {[]api.Spanner{{Kind: 0, From: api.ID{Number: 7}, To: api.ID{Number: 8}}}, "ends @0.21"}, {[]api.Spanner{{Kind: 8, From: api.ID{Number: 7}, To: api.ID{Number: 8}}}, "ends @0.21"},
		{[]api.Spanner{{Kind: 1, From: api.ID{Number: 11}, To: api.ID{Number: 17}}}, "ends @0.21"}, {[]api.Spanner{{Kind: 6, From: api.ID{Number: 7}, To: api.ID{Number: 19}}}, "ends @0.21"}, {[]api.Spanner{{Kind: 6, From: api.ID{Number: 7}, To: api.ID{Number: 6}}}, "ends @0.21"}, {[]api.Spanner{{Kind: 6, From: api.ID{Number: 1}, To: api.ID{Number: 8}}}, "ends @0.21"}, {[]api.Spanner{{Kind: 6, To: api.ID{Number: 8}}}, "ends @0.21"}, {[]api.Spanner{{Kind: 6, From: api.ID{Number: 7}, To: api.ID{Number: 99}}}, "ends @0.21"},
		// Each spanner that excludes an earlier one violates the rule, also if that does; one without proper ends excludes none.
		{[]api.Spanner{{Kind: 6, From: api.ID{Number: 7}, To: api.ID{Number: 9}}, {Kind: 6, From: api.ID{Number: 8}, To: api.ID{Number: 10}}, {Kind: 6, From: api.ID{Number: 9}, To: api.ID{Number: 10}}, {Kind: 2, From: api.ID{Number: 8}, To: api.ID{Number: 10}}}, "nesting @0.22, nesting @0.23"},
		{[]api.Spanner{{Kind: 6, From: api.ID{Number: 9}, To: api.ID{Number: 7}}, {Kind: 6, From: api.ID{Number: 8}, To: api.ID{Number: 10}}, {Kind: 6, From: api.ID{Number: 8}, To: api.ID{Number: 7}}}, "ends @0.21, ends @0.23"},
		{[]api.Spanner{{Kind: 1, From: api.ID{Number: 7}, To: api.ID{Number: 9}}, {Kind: 1, From: api.ID{Number: 8}, To: api.ID{Number: 15}}}, "nesting @0.22"},
		{[]api.Spanner{{Kind: 1, From: api.ID{Number: 7}, To: api.ID{Number: 9}}, {Kind: 1, From: api.ID{Number: 7}, To: api.ID{Number: 15}}}, ""},
	} {
		s.Spanners = c.spans
		for i := range c.spans {
			c.spans[i].ID = api.ID{Number: 21 + i}
		}
		s.Last = []api.ID{{Number: 30}}
		if got := texts(check.Check(s)); got != c.want {
			t.Errorf("%v: Check = %q; want %q", c.spans, got, c.want)
		}
	}
}

func TestP16_1Jumps(t *testing.T) {
	// Each measure has its options; the measures have the ids 3, 5, 7, ..
	for _, c := range []struct{ measures, want string }{
		{"j1", ""}, {"j7", "jumps @0.3"}, {"j-1", "jumps @0.3"}, {"t16", "jumps @0.3"}, {"t-1", "jumps @0.3"}, {"t15 j0", ""},
		{"j1 r2", "jumps @0.3"}, {"t4 r2", "jumps @0.3"}, {"s1, e1 r2, e2 t4", "jumps @0.7"}, {"s1 t1, e1 r2, e2 j4", "jumps @0.7"}, {"s1 t1, r2, j4", ""},
		{"j1, j1, j1", "jumps @0.5, jumps @0.7"}, {"j9, j1", "jumps @0.3, jumps @0.5"}, {"t1, t4, t1, t6", "jumps @0.7, jumps @0.9"}, {"t3, t12", ""},
		{"j4", "jumps @0.3"}, {"t1, j4", ""}, {"t1 j4", ""}, {"j4, t1", "jumps @0.3"}, {"t2, j4", "jumps @0.5"},
		{"j2", "jumps @0.3"}, {"t4, j2", ""}, {"t4 j2", ""}, {"j2, t4", "jumps @0.3"}, {"t8, j2", "jumps @0.5"}, {"t4, j5", "jumps @0.5"}, {"t1, j5", "jumps @0.5"}, {"t1, t4, j5", ""}, {"t4, t1, j5", ""}, {"t5 j5", ""},
		{"j3", "jumps @0.3"}, {"t8, j3, t2", ""}, {"t8 j3, t2", ""}, {"t8, t2, j3", ""}, {"t8, t2 j3", ""}, {"t2, t8, j3", "jumps @0.7"}, {"t10, j3", "jumps @0.5"}, {"t8, j3", "jumps @0.5"}, {"j3, t2", "jumps @0.3"}, {"j3, t8, t2", "jumps @0.3"}, {"t2, j3", "jumps @0.5"},
		{"t1, t8, j6, t2", ""}, {"t8, t1, j6, t2", ""}, {"t8, j6, t2", "jumps @0.5"}, {"t1, j6, t2", "jumps @0.5"}, {"t1, t8, j6", "jumps @0.7"}, {"t9 j6, t2", ""},
		// Of several measures with a label only the first one is looked at.
		{"t8, j3, t2, t8", "jumps @0.9"}, {"t2, t8, j3, t2", "jumps @0.7, jumps @0.9"}, {"j4, t1, t1", "jumps @0.3, jumps @0.7"},
	} {
		var measures []string
		for options := range strings.SplitSeq(c.measures, ",") {
			measures = append(measures, "1/4 "+options+" : R")
		}
		if got := texts(check.Check(sample.Read("1", measures...))); got != c.want {
			t.Errorf("%q: Check = %q; want %q", c.measures, got, c.want)
		}
	}
}

func TestP16_1Tempi(t *testing.T) {
	tempi := func(l ...api.TempoMark) func(s *api.Score) {
		return func(s *api.Score) { s.Measures[1].Tempi = l }
	}
	try(t, "", tempi(api.TempoMark{At: 0, Micros: 1}, api.TempoMark{At: 1, Micros: 60000000, Ramp: true}, api.TempoMark{At: 1451519, Micros: 1}))
	for _, l := range [][]api.TempoMark{{{At: -1, Micros: 1}}, {{At: 1451520, Micros: 1}}, {{Micros: 0}}, {{Micros: -1}}, {{Micros: 60000001}}, {{Micros: 1}, {Micros: 1}}, {{At: 1, Micros: 1}, {At: 0, Micros: 1}}} {
		try(t, "tempi @0.17", tempi(l...))
	}
	for swing, good := range map[int]bool{0: true, 50: true, 75: true, 49: false, 76: false, 1: false, -50: false} {
		want := "tempi @0.17"
		if good {
			want = ""
		}
		try(t, want, func(s *api.Score) { s.Measures[1].Swing = swing })
	}
	for n, good := range map[int]bool{0: true, 3: true, 4: false, -1: false} {
		want := "tempi @0.6"
		if good {
			want = ""
		}
		try(t, want, func(s *api.Score) { s.Measures[0].Break = n })
	}
}

func TestP16_1Margins(t *testing.T) {
	for _, c := range []struct{ first, second, want string }{
		{"", "", ""}, {"r2", "", "margins @0.7"}, {"j1", "", "margins @0.7"}, {"t4", "", "margins @0.7"}, {"t8", "", "margins @0.7"}, {"t3", "", ""}, {"", "t1", "margins @0.7"}, {"", "t2", "margins @0.7"}, {"", "t12", ""}, {"", "s1 r2", "margins @0.7"}, {"", "r2", ""}, {"", "e1", "margins @0.7, repeats @0.8"}, {"", "j1", ""}, {"s1", "r2", ""},
	} {
		s := sample.Read("1", "4/4 : R", "4/4 "+c.first+" : C4~:2 C4~:2", "4/4 "+c.second+" : C4:1")
		got := strings.Split(texts(check.Check(s)), ", ")
		slices.Sort(got)
		if strings.Join(got, ", ") != c.want {
			t.Errorf("%q, %q: Check = %q; want %q", c.first, c.second, got, c.want)
		}
	}
	s := sample.Read("1", "4/4 : R", "4/4 e1 r2 : C4~:1", "4/4 e2 : C4:1")
	if got := texts(check.Check(s)); got != "margins @0.6" {
		t.Errorf("Check = %q", got)
	}
	s = sample.Read("1", "4/4 : R", "4/4 e1 : C4~:1", "4/4 e1 r2 : C4:1", "4/4 e2 : C4~:1", "4/4 e2 : C4~:1", "4/4 : C4:1")
	if got := texts(check.Check(s)); got != "margins @0.12" {
		t.Errorf("Check = %q", got)
	}
}

// somewhere returns something in a value that can be changed: along the fields with these names, or along random ones.
func somewhere(r *sample.Source, v reflect.Value, names []string) reflect.Value {
	switch {
	case v.Kind() == reflect.Slice && v.Len() > 0 && (len(names) > 0 || r.Chance(85)), v.Kind() == reflect.Array:
		return somewhere(r, v.Index(r.Below(v.Len())), names)
	case v.Kind() == reflect.Struct && len(names) > 0:
		return somewhere(r, v.FieldByName(names[0]), names[1:])
	case v.Kind() == reflect.Struct:
		return somewhere(r, v.Field(r.Below(v.NumField())), nil)
	}
	return v
}

// damage changes something in a score.
func damage(r *sample.Source, s *api.Score) {
	var names []string
	if r.Chance(60) {
		names = strings.Split(sample.Pick(r, "Spanners.Kind", "Spanners.From.Number", "Spanners.To.Number", "Measures.RepeatEnd", "Measures.RepeatStart", "Measures.Labels", "Measures.Jump", "Measures", "Measures.Cells.Voices.Events.Heads.Tied", "Measures.Cells.Voices.Events.Lyrics.Link", "Measures.Cells.Voices.Events.Lyrics.Text", "Measures.Cells.Voices.Tuplets", "Measures.Cells.Voices.Events.Value.Log", "Measures.Cells.Clefs.At", "Parts.Staves.Clef", "Parts.Transpose.Semitones"), ".")
	}
	v := somewhere(r, reflect.ValueOf(s).Elem(), names)
	switch v.Kind() {
	case reflect.Int:
		v.SetInt(int64(sample.Pick(r, 0, 1, 2, 3, 4, 8, 12, -1, int(v.Int())+1, int(v.Int())-1, 100, 1451520)))
	case reflect.Bool:
		v.SetBool(!v.Bool())
	case reflect.String:
		v.SetString(sample.Pick(r, "", "a", "\x1f"))
	case reflect.Slice:
		if n := v.Len(); n > 0 {
			i := r.Below(n)
			switch r.Below(3) {
			case 0:
				v.Index(i).Set(v.Index(r.Below(n)))
			case 1:
				v.Set(reflect.AppendSlice(v.Slice3(0, i, i), v.Slice(i+1, n)))
			case 2:
				v.Set(reflect.Append(v.Slice3(0, n, n), v.Index(i)))
			}
		}
	}
}

func TestP16_1AtRandom(t *testing.T) {
	t.Parallel()
	rules := make([]int, 18)
	for seed := range 3000 {
		r := sample.New(seed)
		s := sample.Score(r)
		if seed%10 > 0 {
			s = score.Clone(s)
			for range 1 + r.Below(2) {
				damage(r, &s)
			}
			if r.Chance(50) { // so that ids hide nothing else
				s = score.Renumber(s)
			}
		}
		want := checkOf(s)
		for _, v := range want {
			rules[v.Rule]++
		}
		if len(want) == 0 {
			rules[0]++
		}
		got := check.Check(s)
		if text(got) != text(want[:min(len(want), 200)]) {
			t.Fatalf("seed %d: Check = %q; want %q", seed, texts(got), texts(want))
		}
		if check.Valid(s) != (len(want) == 0) {
			t.Fatalf("seed %d: Valid = %t", seed, check.Valid(s))
		}
		first, found := check.First(s)
		if found != (len(want) > 0) || found && first != want[0] || !found && first != (api.Violation{}) {
			t.Fatalf("seed %d: First = %v, %t", seed, first, found)
		}
	}
	for rule, n := range rules {
		if n < 12 {
			t.Errorf("the rule %d was violated only %d times", rule, n)
		}
	}
}

func TestP16_2Rule(t *testing.T) {
	s := fixed()
	s.Parts[0].Staves[0].Clef, s.Measures[0].Fifths, s.Measures[1].Fifths = 77, 8, -8
	for rule := 1; rule <= check.NumRules; rule++ {
		want := map[int]string{check.Clefs: "clefs @0.2", check.Metres: "metres @0.6, metres @0.17"}[rule]
		if l, e := check.Rule(s, rule); texts(l) != want || e != api.OK {
			t.Errorf("Rule(%d) = %q, error %d", rule, texts(l), e)
		}
	}
	if v, found := check.First(s); !found || check.Text(v) != "clefs @0.2" {
		t.Errorf("First = %v, %t", v, found)
	}
}

func TestP16_1MaxViolations(t *testing.T) {
	var l []string
	for range 199 {
		l = append(l, "4/4 k9 : R")
	}
	s := sample.Read("1", l...)
	s.Measures[0].Cells[0].Clefs = []api.ClefChange{{Clef: 99}}
	s.Measures[0].Cells[0].Voices[0].Events[0].Stem = 1
	all := check.Check(s)
	if len(all) != 200 || check.Text(all[0]) != "clefs @0.3" || check.Text(all[199]) != "metres @0.399" {
		t.Errorf("Check = %q", texts(all))
	}
	if l, _ := check.Rule(s, check.Events); len(l) != 0 {
		t.Errorf("Rule finds what Check leaves out: %q", texts(l))
	}
	s.Measures[0].Cells[0].Clefs = nil
	if all := check.Check(s); len(all) != 200 || check.Text(all[199]) != "events @0.4" {
		t.Errorf("Check = %q", texts(all))
	}
	s.Measures[0].Cells[0].Voices[0].Events[0].Stem = 0
	if all := check.Check(s); len(all) != 199 {
		t.Errorf("Check = %q", texts(all))
	}
}

func TestP16_4Consequences(t *testing.T) {
	t.Parallel()
	for seed := range 1000 {
		r := sample.New(seed)
		s := sample.Score(r)
		for _, other := range []api.Score{score.Clone(s), score.Renumber(s)} {
			if !check.Valid(other) {
				t.Fatalf("seed %d: a valid score is not valid any more: %q", seed, texts(check.Check(other)))
			}
		}
		seen := map[api.ID]bool{}
		for _, id := range score.IDs(s) {
			if seen[id] || id == (api.ID{}) {
				t.Fatalf("seed %d: two objects have the id %v", seed, id)
			}
			seen[id] = true
		}
		shuffled := score.Clone(s)
		for i := range shuffled.Spanners {
			k := r.Below(i + 1)
			shuffled.Spanners[i], shuffled.Spanners[k] = shuffled.Spanners[k], shuffled.Spanners[i]
		}
		if !check.Valid(shuffled) {
			t.Fatalf("seed %d: the order of the spanners matters: %q", seed, texts(check.Check(shuffled)))
		}
	}
}

func TestP16_1Examples(t *testing.T) {
	s := score.New("A", 1)
	m := sample.Read("1", "4/4 : R").Measures[0]
	s, _ = score.InsertMeasures(s, 0, []api.Measure{m})
	s = score.Renumber(s)
	if l := check.Check(s); len(l) != 0 {
		t.Errorf("Check = %q", texts(l))
	}
	s.Parts[0].Staves[0].Clef = 10
	if l := check.Check(s); texts(l) != "clefs @0.2" {
		t.Errorf("Check = %q", texts(l))
	}
	s = sample.Read("1", "4/4 s1 : R", "4/4 e1 r2 : R", "4/4 e2 : R", "4/4 : R")
	if l := check.Check(s); len(l) != 0 {
		t.Errorf("Check = %q", texts(l))
	}
	s.Measures[1].RepeatEnd = 0
	if l := check.Check(s); texts(l) != "repeats @0.7" {
		t.Errorf("Check = %q", texts(l))
	}
}
