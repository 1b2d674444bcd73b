package score

import (
	"hemiola/api"
	"hemiola/event"
)

// EventAt returns the event at a place, and SetEvent the score with another one there.
func EventAt(s api.Score, p Place) (api.Event, api.Errno) {
	if e := checkEvent(s, p); e != api.OK {
		return api.Event{}, e
	}
	return event.Clone(eventsAt(s, p)[p.Event]), api.OK
}

func SetEvent(s api.Score, p Place, e api.Event) (api.Score, api.Errno) {
	if e := checkEvent(s, p); e != api.OK {
		return api.Score{}, e
	}
	return changed(s, func(out *api.Score) { eventsAt(*out, p)[p.Event] = event.Clone(e) }), api.OK
}

// checkEvent returns the error if there is no event at a place.
func checkEvent(s api.Score, p Place) api.Errno {
	switch {
	case p.Kind != Event:
		return api.ErrKind
	case !within(p.Event, len(eventsAt(s, p))):
		return api.ErrRange
	}
	return api.OK
}

// eventsAt returns the events of the voice of a place, or none if there is no such voice.
func eventsAt(s api.Score, p Place) []api.Event {
	if !within(p.Measure, len(s.Measures)) || !within(p.Staff, len(s.Measures[p.Measure].Cells)) {
		return nil
	}
	c := s.Measures[p.Measure].Cells[p.Staff]
	if !within(p.Voice, len(c.Voices)) {
		return nil
	}
	return c.Voices[p.Voice].Events
}

// within reports whether a list with n elements has an element with an index.
func within(index, n int) bool { return index >= 0 && index < n }

// Next and Previous return the place of the event that follows, or precedes, another one in its voice, also in the neighbouring measure.
func Next(s api.Score, p Place) (Place, bool) {
	if checkEvent(s, p) != api.OK {
		return Place{}, false
	}
	next := Place{Kind: Event, Staff: p.Staff, Measure: p.Measure, Voice: p.Voice, Event: p.Event + 1}
	if next.Event == len(eventsAt(s, p)) {
		next.Measure, next.Event = p.Measure+1, 0
	}
	if checkEvent(s, next) != api.OK {
		return Place{}, false
	}
	return next, true
}

func Previous(s api.Score, p Place) (Place, bool) {
	p.Part, p.Spanner = 0, 0 // as in the places that Next returns
	previous := p
	if p.Event > 0 {
		previous.Event--
	} else {
		previous.Measure--
		previous.Event = len(eventsAt(s, previous)) - 1
	}
	if next, found := Next(s, previous); !found || next != p {
		return Place{}, false
	}
	return previous, true
}
