package timeline_test

import (
	"fmt"
	"testing"

	"hemiola/api"
	"hemiola/check"
	"hemiola/duration"
	"hemiola/metre"
	"hemiola/sample"
	"hemiola/score"
	"hemiola/voice"
)

const (
	whole   = 1935360
	half    = whole / 2
	quarter = whole / 4
	eighth  = whole / 8
)

// text returns a text that is equal for equal values; nil lists are equal to empty ones.
func text(x any) string { return fmt.Sprintf("%+v", x) }

// invalid returns scores that violate a rule, and are otherwise as sound as the valid ones.
func invalid() []api.Score {
	valid := sample.Read("1", "4/4 : C4:1", "4/4 : C4:1")
	var l []api.Score
	for _, change := range []func(s *api.Score){
		func(s *api.Score) { s.Measures = nil }, func(s *api.Score) { s.Measures[0].ID.Number = 1 }, func(s *api.Score) { s.Measures[1].Swing = 1 }, func(s *api.Score) { s.Measures[1].Jump = api.DalSegno },
	} {
		s := score.Clone(valid)
		change(&s)
		l = append(l, s)
	}
	return l
}

// scores calls a function with many valid scores, and fails if it changes them.
func scores(t *testing.T, n int, look func(r *sample.Source, s api.Score)) {
	t.Helper()
	t.Parallel()
	for seed := range n {
		r := sample.New(seed)
		s := sample.Score(r)
		if !check.Valid(s) {
			t.Fatalf("seed %d is not valid: %v", seed, check.Check(s))
		}
		before := text(s)
		look(r, s)
		if text(s) != before {
			t.Fatalf("seed %d: the score was changed", seed)
		}
	}
}

// lengthOf returns the length of a measure.
func lengthOf(m api.Measure) int {
	if m.Length != 0 {
		return m.Length
	}
	length, _ := metre.Length(m.Metre)
	return length
}

// placed is an event with its place and its ticks in the score.
type placed struct {
	api.Event
	measure, staff, voice, on, off int
	part, index                    int // the part, and the staff in it
}

// voiceOf returns the events of a voice of a staff.
func voiceOf(s api.Score, staff, voiceIndex int) []placed {
	var l []placed
	part, index, _ := score.PartOf(s, staff)
	start := 0
	for i, m := range s.Measures {
		length := lengthOf(m)
		if voiceIndex < len(m.Cells[staff].Voices) {
			v := m.Cells[staff].Voices[voiceIndex]
			lengths, _ := voice.Lengths(v, length)
			at := start
			for k, x := range v.Events {
				l = append(l, placed{Event: x, measure: i, staff: staff, voice: voiceIndex, on: at, off: at + lengths[k], part: part, index: index})
				at += lengths[k]
			}
		}
		start += length
	}
	return l
}

// continued returns the head of a pitch in an event, or nil.
func continued(x placed, p api.Pitch) *api.Head {
	for i, h := range x.Heads {
		if h.Pitch == p && x.Kind == api.Chord {
			return &x.Heads[i]
		}
	}
	return nil
}

// notesOf returns the sounding notes of a score, by staves and voices.
func notesOf(s api.Score) []api.Note {
	var l []api.Note
	for staff := range score.Staves(s) {
		for k := range api.MaxVoices {
			events := voiceOf(s, staff, k)
			for i, x := range events {
				for n, h := range x.Heads {
					if i > 0 {
						if before := continued(events[i-1], h.Pitch); before != nil && before.Tied {
							continue
						}
					}
					last, head := i, h
					for head.Tied {
						last++
						head = *continued(events[last], h.Pitch)
					}
					number := (h.Pitch.Octave+1)*12 + []int{0, 2, 4, 5, 7, 9, 11}[h.Pitch.Step] + h.Pitch.Alter
					if s.Written {
						number -= s.Parts[x.part].Transpose.Semitones
					}
					l = append(l, api.Note{On: x.on, Off: events[last].off, Number: number, Part: x.part, Staff: x.index, Voice: k, Event: x.ID, Head: n})
				}
			}
		}
	}
	return l
}

// before reports whether a note comes before another one.
func before(a, b api.Note) bool {
	x := [...]int{a.On, a.Number, a.Part, a.Staff, a.Voice, a.Off, a.Event.Site, a.Event.Number, a.Head}
	y := [...]int{b.On, b.Number, b.Part, b.Staff, b.Voice, b.Off, b.Event.Site, b.Event.Number, b.Head}
	for i := range x {
		if x[i] != y[i] {
			return x[i] < y[i]
		}
	}
	return false
}

// sortedOf returns notes in order.
func sortedOf(l []api.Note) []api.Note {
	var out []api.Note
	for _, n := range l {
		i := len(out)
		for i > 0 && before(n, out[i-1]) {
			i--
		}
		out = append(out[:i], append([]api.Note{n}, out[i:]...)...)
	}
	return out
}

// ticks returns the duration of a note value with a text.
func ticks(value string) int {
	v, _ := duration.Parse(value)
	n, _ := duration.Ticks(v)
	return n
}
