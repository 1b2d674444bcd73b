package timeline

import (
	"cmp"
	"slices"

	"hemiola/api"
	"hemiola/check"
	"hemiola/measure"
	"hemiola/pitch"
)

// Notes returns the sounding notes of a score in order, with ties joined.
func Notes(s api.Score) ([]api.Note, api.Errno) {
	if !check.Valid(s) {
		return nil, api.ErrRule
	}
	p := player{staves: stavesOf(s), held: map[tie]int{}}
	for i, start := range startsOf(s)[:len(s.Measures)] {
		p.play(s.Measures[i], start)
	}
	return Sort(p.notes), api.OK
}

// voicing is what the notes of a staff have in common: their part, the index of the staff in it, and what is added to the numbers of their pitches.
type voicing struct{ part, staff, shift int }

// stavesOf returns the voicings of all staves.
func stavesOf(s api.Score) []voicing {
	var l []voicing
	for i, p := range s.Parts {
		for k := range p.Staves {
			v := voicing{part: i, staff: k}
			if s.Written {
				v.shift = -p.Transpose.Semitones
			}
			l = append(l, v)
		}
	}
	return l
}

// tie is what a note is held by: the heads with this pitch in this voice of this staff, counted over all parts.
type tie struct {
	staff, voice int
	pitch        api.Pitch
}

// player collects notes; held has the indices of those whose last heads are tied.
type player struct {
	staves []voicing
	notes  []api.Note
	held   map[tie]int
}

// play adds the notes of a measure that begins at a tick, and lengthens those that are held into it.
func (p *player) play(m api.Measure, start int) {
	slots, _ := measure.Slots(m)
	for _, slot := range slots {
		x := m.Cells[slot.Staff].Voices[slot.Voice].Events[slot.Event]
		for k, h := range x.Heads {
			at := tie{staff: slot.Staff, voice: slot.Voice, pitch: h.Pitch}
			i, held := p.held[at]
			if !held {
				i = len(p.notes)
				p.notes = append(p.notes, p.begin(at, api.Note{On: start + slot.On, Event: x.ID, Head: k}))
			}
			p.notes[i].Off = start + slot.Off
			delete(p.held, at)
			if h.Tied {
				p.held[at] = i
			}
		}
	}
}

// begin adds the number, the part, the staff and the voice to a note.
func (p *player) begin(at tie, n api.Note) api.Note {
	number, _ := pitch.Number(at.pitch)
	v := p.staves[at.staff]
	n.Number, n.Part, n.Staff, n.Voice = number+v.shift, v.part, v.staff, at.voice
	return n
}

// Sounding returns the notes that sound at a tick, and Part those of a part.
func Sounding(l []api.Note, tick int) []api.Note {
	return selected(l, func(n api.Note) bool { return n.On <= tick && tick < n.Off })
}

func Part(l []api.Note, part int) []api.Note {
	return selected(l, func(n api.Note) bool { return n.Part == part })
}

func selected(l []api.Note, wanted func(api.Note) bool) []api.Note {
	var out []api.Note
	for _, n := range l {
		if wanted(n) {
			out = append(out, n)
		}
	}
	return out
}

// Compare orders notes, and Sort returns notes in order.
func Compare(a, b api.Note) int {
	return cmp.Or(
		cmp.Compare(a.On, b.On),
		cmp.Compare(a.Number, b.Number),
		cmp.Compare(a.Part, b.Part),
		cmp.Compare(a.Staff, b.Staff),
		cmp.Compare(a.Voice, b.Voice),
		cmp.Compare(a.Off, b.Off),
		cmp.Compare(a.Event.Site, b.Event.Site),
		cmp.Compare(a.Event.Number, b.Event.Number),
		cmp.Compare(a.Head, b.Head),
	)
}

func Sort(l []api.Note) []api.Note {
	out := slices.Clone(l)
	slices.SortStableFunc(out, Compare)
	return out
}

// SameSound reports whether two lists have the same notes at the same times, whatever events and voices they belong to.
func SameSound(a, b []api.Note) bool { return slices.Equal(sounds(a), sounds(b)) }

// sounds returns the times and numbers of notes in order.
func sounds(l []api.Note) []api.Note {
	out := make([]api.Note, len(l))
	for i, n := range l {
		out[i] = api.Note{On: n.On, Off: n.Off, Number: n.Number}
	}
	slices.SortFunc(out, Compare)
	return out
}
