package measure

import (
	"iter"
	"slices"

	"hemiola/api"
	"hemiola/event"
	"hemiola/voice"
)

// events yields the events of a measure in the order of slots, valid or not.
func events(m api.Measure) iter.Seq[*api.Event] {
	return func(yield func(*api.Event) bool) {
		for _, c := range m.Cells {
			for _, v := range c.Voices {
				for i := range v.Events {
					if !yield(&v.Events[i]) {
						return
					}
				}
			}
		}
	}
}

// Number gives ids of a site to the events that have none, from a number on, and returns the next number.
func Number(m api.Measure, site, base int) (api.Measure, int) {
	out := Clone(m)
	for x := range events(out) {
		if x.ID == (api.ID{}) {
			x.ID = api.ID{Site: site, Number: base}
			base++
		}
	}
	return out, base
}

// IDs returns the ids of the measure and of its events, in order, and Silent reports whether no event of a staff sounds.
func IDs(m api.Measure) []api.ID {
	ids := []api.ID{m.ID}
	for x := range events(m) {
		ids = append(ids, x.ID)
	}
	return ids
}

func Silent(m api.Measure, staff int) bool {
	if !hasStaff(m, staff) {
		return true
	}
	for _, v := range m.Cells[staff].Voices {
		if slices.ContainsFunc(v.Events, event.Sounds) {
			return false
		}
	}
	return true
}

// CloneCell and Clone return independent copies, EqualCell and Equal compare all fields, and Same compares all but ids.
func CloneCell(c api.Cell) api.Cell {
	voices := slices.Clone(c.Voices)
	for i, v := range voices {
		voices[i] = voice.Clone(v)
	}
	return api.Cell{Clefs: slices.Clone(c.Clefs), Voices: voices}
}

func EqualCell(a, b api.Cell) bool {
	return slices.Equal(a.Clefs, b.Clefs) && slices.EqualFunc(a.Voices, b.Voices, voice.Equal)
}

func Clone(m api.Measure) api.Measure {
	m.Tempi = slices.Clone(m.Tempi)
	m.Cells = slices.Clone(m.Cells)
	for i, c := range m.Cells {
		m.Cells[i] = CloneCell(c)
	}
	return m
}

func Equal(a, b api.Measure) bool {
	return a.ID == b.ID && a.Metre == b.Metre && a.Length == b.Length && a.Fifths == b.Fifths &&
		a.RepeatStart == b.RepeatStart && a.RepeatEnd == b.RepeatEnd && a.Endings == b.Endings &&
		a.Jump == b.Jump && a.Labels == b.Labels && a.Swing == b.Swing && a.Break == b.Break &&
		a.Rehearsal == b.Rehearsal &&
		slices.Equal(a.Tempi, b.Tempi) && slices.EqualFunc(a.Cells, b.Cells, EqualCell)
}

func Same(a, b api.Measure) bool { return Equal(withoutIDs(a), withoutIDs(b)) }

// withoutIDs returns a measure in which the ids of the measure and of its events are zero.
func withoutIDs(m api.Measure) api.Measure {
	out := Clone(m)
	out.ID = api.ID{}
	for x := range events(out) {
		x.ID = api.ID{}
	}
	return out
}
