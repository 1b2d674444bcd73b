package timeline

import (
	"hemiola/api"
	"hemiola/check"
	"hemiola/measure"
	"hemiola/score"
	"hemiola/spanner"
)

// Spans returns the spanners of a score as spans, in order, and Place the place of an event.
func Spans(s api.Score) ([]spanner.Span, api.Errno) {
	if !check.Valid(s) {
		return nil, api.ErrRule
	}
	return spansOf(s), api.OK
}

// spansOf returns the spans of a valid score.
func spansOf(s api.Score) []spanner.Span {
	places := placesOf(s)
	var spans []spanner.Span
	for _, x := range s.Spanners {
		spans = append(spans, spanner.Span{Kind: x.Kind, From: places[x.From], To: places[x.To]})
	}
	return spans
}

// placesOf returns the places of the events of a valid score, by their ids.
func placesOf(s api.Score) map[api.ID]spanner.Place {
	places := map[api.ID]spanner.Place{}
	for i, m := range s.Measures {
		slots, _ := measure.Slots(m)
		for _, slot := range slots {
			id := m.Cells[slot.Staff].Voices[slot.Voice].Events[slot.Event].ID
			places[id] = spanner.Place{Measure: i, At: slot.On, Staff: slot.Staff, Voice: slot.Voice}
		}
	}
	return places
}

func Place(s api.Score, event api.ID) (spanner.Place, api.Errno) {
	if !check.Valid(s) {
		return spanner.Place{}, api.ErrRule
	}
	p, found := score.Find(s, event)
	if !found || p.Kind != score.Event {
		return spanner.Place{}, api.ErrNotFound
	}
	slot, _ := measure.Find(s.Measures[p.Measure], event)
	return spanner.Place{Measure: p.Measure, At: slot.On, Staff: p.Staff, Voice: p.Voice}, api.OK
}

// Shift returns by how many staff positions notes of a staff are displayed lower or higher at a tick of a measure because of octave lines.
func Shift(s api.Score, measure, staff, tick int) (int, api.Errno) {
	if e := checkPlace(s, measure, staff); e != api.OK {
		return 0, e
	}
	if tick < 0 || tick >= lengthOf(s.Measures[measure]) {
		return 0, api.ErrRange
	}
	return spanner.Shift(spansOf(s), spanner.Place{Measure: measure, At: tick, Staff: staff}), api.OK
}
