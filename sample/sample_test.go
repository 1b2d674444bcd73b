package sample_test

import (
	"testing"

	"hemiola/api"
	"hemiola/check"
	"hemiola/sample"
	"hemiola/score"
)

func TestRead(t *testing.T) {
	s := sample.Read("12", "4/4 k-2 l967680 s1 r2 e1 j3 t5 : @0=2 @483840=3 C4+E4~:4./la-/_ s:8 | (3:2 Cb5:8 r:8 r:8 ) ; R ; R")
	if len(s.Parts) != 2 || len(s.Parts[1].Staves) != 2 || s.Parts[1].Staves[1] != (api.Staff{ID: api.ID{Number: 5}, Clef: 1}) {
		t.Errorf("the parts are %+v", s.Parts)
	}
	m := s.Measures[0]
	head := api.Measure{ID: m.ID, Metre: api.Metre{Count: 4, Unit: 4}, Fifths: -2, Length: 967680, RepeatStart: true, RepeatEnd: 2, Endings: 1, Jump: 3, Labels: 5}
	if m.ID != (api.ID{Number: 6}) || len(m.Cells) != 3 || m.Metre != head.Metre || m.Fifths != -2 || m.Length != 967680 || !m.RepeatStart || m.RepeatEnd != 2 || m.Endings != 1 || m.Jump != 3 || m.Labels != 5 {
		t.Errorf("the measure is %+v", m)
	}
	c := m.Cells[0]
	if len(c.Clefs) != 2 || c.Clefs[1] != (api.ClefChange{At: 483840, Clef: 3}) || len(c.Voices) != 2 || len(c.Voices[0].Events) != 2 || len(c.Voices[1].Events) != 3 {
		t.Fatalf("the cell is %+v", c)
	}
	x := c.Voices[0].Events[0]
	if x.Kind != api.Chord || x.Value != (api.Value{Log: 2, Dots: 1}) || len(x.Heads) != 2 || x.Heads[0].Tied || !x.Heads[1].Tied || x.Heads[1].Pitch != (api.Pitch{Step: 2, Octave: 4}) {
		t.Errorf("the chord is %+v", x)
	}
	if len(x.Lyrics) != 2 || x.Lyrics[0] != (api.Syllable{Text: "la", Link: api.Hyphen}) || x.Lyrics[1] != (api.Syllable{Link: api.Extender}) {
		t.Errorf("the lyrics are %+v", x.Lyrics)
	}
	if l := c.Voices[1].Tuplets; len(l) != 1 || l[0] != (api.Tuplet{Count: 3, Actual: 3, Normal: 2}) || c.Voices[0].Events[1].Kind != api.Skip || m.Cells[1].Voices[0].Events[0].Kind != api.MeasureRest {
		t.Errorf("the tuplets are %+v", l)
	}
}

// TestScore shows that scores are valid, and that what tests need occurs.
func TestScore(t *testing.T) {
	counts := map[string]int{}
	count := func(what string, is bool) {
		if is {
			counts[what]++
		}
	}
	for seed := range 500 {
		s := sample.Score(sample.New(seed))
		if l := check.Check(s); len(l) > 0 {
			t.Fatalf("seed %d: the score violates %v", seed, l)
		}
		count("spanner", len(s.Spanners) > 2)
		count("written", s.Written)
		for _, m := range s.Measures {
			count("ending", m.Endings != 0)
			count("jump", m.Jump != 0)
			count("tempo", len(m.Tempi) > 0)
			count("short measure", m.Length != 0)
			count("clef", len(m.Cells[0].Clefs) > 0)
			count("second voice", len(m.Cells[0].Voices) > 1)
			for _, x := range m.Cells[0].Voices[0].Events {
				count("lyrics", len(x.Lyrics) > 0)
				count("graces", len(x.Graces) > 0)
				count("chord", len(x.Heads) > 1)
			}
			count("tuplet", len(m.Cells[0].Voices[0].Tuplets) > 0)
		}
		for _, id := range score.IDs(s) {
			count("id", id.Number > 100)
		}
	}
	for _, what := range []string{"spanner", "written", "ending", "jump", "tempo", "short measure", "clef", "second voice", "lyrics", "graces", "chord", "tuplet", "id"} {
		if counts[what] < 50 {
			t.Errorf("%s occurs only %d times", what, counts[what])
		}
	}
}

func TestSource(t *testing.T) {
	a, b := sample.New(5), sample.New(5)
	seen := map[int]int{}
	for range 1000 {
		n := a.Below(7)
		seen[n]++
		if n != b.Below(7) {
			t.Fatal("two sources with the same seed differ")
		}
	}
	for n := range 7 {
		if seen[n] < 90 {
			t.Errorf("the number %d occurs only %d times", n, seen[n])
		}
	}
}
