package voice

import (
	"hemiola/api"
	"hemiola/event"
	"hemiola/metre"
)

// Rests returns rests from a tick of a metre to another one.
func Rests(m api.Metre, from, to int) ([]api.Event, api.Errno) {
	return Notes(event.Rest(api.ID{}, api.Value{}), m, from, to)
}

// Notes returns copies of an event, tied to one another, from a tick of a metre to another one; the first one has all that is not repeated.
func Notes(x api.Event, m api.Metre, from, to int) ([]api.Event, api.Errno) {
	if e := event.Check(x); e != api.OK {
		return nil, e
	}
	if x.Kind == api.MeasureRest {
		return nil, api.ErrKind
	}
	values, e := metre.Split(m, from, to)
	if e != api.OK {
		return nil, e
	}
	notes := make([]api.Event, len(values))
	for i, value := range values {
		note := event.Clone(x)
		if i > 0 {
			note = further(x)
		}
		if i < len(values)-1 {
			tie(note)
		}
		note.Value = value
		notes[i] = note
	}
	return notes, api.OK
}

// further returns what an event repeats of itself in a further note, with the ties and the value of the event.
func further(x api.Event) api.Event {
	note := api.Event{Kind: x.Kind, Value: x.Value, Stem: x.Stem}
	for _, h := range x.Heads {
		note.Heads = append(note.Heads, api.Head{Pitch: h.Pitch, Tied: h.Tied})
	}
	return note
}

// tie ties all heads of an event, in the event itself.
func tie(x api.Event) {
	for i := range x.Heads {
		x.Heads[i].Tied = true
	}
}
