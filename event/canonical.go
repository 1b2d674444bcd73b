package event

import (
	"cmp"
	"slices"

	"hemiola/api"
	"hemiola/pitch"
)

// Canonical returns the event with its heads in order, without heads that sound the same, and without what its kind does not use.
func Canonical(e api.Event) api.Event {
	if checkKind(e.Kind) != api.OK {
		return Clone(e)
	}
	c := Clone(used(e))
	c.Heads = ordered(c.Heads)
	for len(c.Lyrics) > 0 && absent(c.Lyrics[len(c.Lyrics)-1]) {
		c.Lyrics = c.Lyrics[:len(c.Lyrics)-1]
	}
	return c
}

// used returns what an event has of what its kind uses. It shares the lists of the event.
func used(e api.Event) api.Event {
	if e.Kind == api.Chord {
		return e
	}
	u := api.Event{ID: e.ID, Kind: e.Kind, Dynamic: e.Dynamic}
	if e.Kind != api.MeasureRest {
		u.Value = e.Value
	}
	if e.Kind != api.Skip {
		u.Articulations = fermata(e)
	}
	return u
}

// fermata returns the articulation Fermata if an event has it, and otherwise 0. All bits of a negative number are other articulations.
func fermata(e api.Event) int { return max(e.Articulations, 0) & api.Fermata }

// ordered returns the heads with well-formed pitches by their numbers, the first one of each number. It changes the list.
func ordered(l []api.Head) []api.Head {
	heads := slices.DeleteFunc(l, func(h api.Head) bool { return pitch.Check(h.Pitch) != api.OK })
	slices.SortStableFunc(heads, func(a, b api.Head) int { return cmp.Compare(number(a), number(b)) })
	return slices.CompactFunc(heads, func(a, b api.Head) bool { return number(a) == number(b) })
}

// Rest returns a rest, and Chord a chord, with an id and a value.
func Rest(id api.ID, v api.Value) api.Event {
	return api.Event{ID: id, Kind: api.Rest, Value: v}
}

func Chord(id api.ID, v api.Value, pitches ...api.Pitch) api.Event {
	chord := api.Event{ID: id, Kind: api.Chord, Value: v}
	for _, p := range pitches {
		chord.Heads = append(chord.Heads, api.Head{Pitch: p})
	}
	return Canonical(chord)
}

// Clone returns an independent copy, and Equal reports whether two events are equal.
func Clone(e api.Event) api.Event {
	e.Heads = slices.Clone(e.Heads)
	e.Graces = slices.Clone(e.Graces)
	e.Lyrics = slices.Clone(e.Lyrics)
	return e
}

func Equal(a, b api.Event) bool { return a.ID == b.ID && Same(a, b) }

// Same reports whether two events are equal up to their ids.
func Same(a, b api.Event) bool {
	return a.Kind == b.Kind && a.Value == b.Value &&
		slices.Equal(a.Heads, b.Heads) && slices.Equal(a.Graces, b.Graces) && slices.Equal(a.Lyrics, b.Lyrics) &&
		a.Articulations == b.Articulations && a.Ornament == b.Ornament && a.Dynamic == b.Dynamic &&
		a.Stem == b.Stem && a.Beam == b.Beam
}
