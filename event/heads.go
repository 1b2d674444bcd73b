package event

import (
	"slices"

	"hemiola/api"
	"hemiola/pitch"
)

// AddHead adds a head, RemoveHead removes one, and FindHead returns the index of the head that sounds like a pitch.
func AddHead(e api.Event, h api.Head) (api.Event, api.Errno) {
	if err := first(Check(e), needChord(e), checkHead(h)); err != api.OK {
		return api.Event{}, err
	}
	if _, found := FindHead(e, h.Pitch); found {
		return api.Event{}, api.ErrDuplicate
	}
	if len(e.Heads) >= api.MaxHeads {
		return api.Event{}, api.ErrLimit
	}
	chord := Clone(e)
	chord.Heads = append(chord.Heads, h)
	return Canonical(chord), api.OK
}

func RemoveHead(e api.Event, index int) (api.Event, api.Errno) {
	if err := first(Check(e), needChord(e), checkRange(index, 0, len(e.Heads)-1)); err != api.OK {
		return api.Event{}, err
	}
	if len(e.Heads) == 1 {
		rest := Rest(e.ID, e.Value)
		rest.Dynamic, rest.Articulations = e.Dynamic, fermata(e)
		return rest, api.OK
	}
	chord := Clone(e)
	chord.Heads = slices.Delete(chord.Heads, index, index+1)
	return chord, api.OK
}

func FindHead(e api.Event, p api.Pitch) (int, bool) {
	wanted, err := pitch.Number(p)
	if err != api.OK {
		return 0, false
	}
	for i, h := range e.Heads {
		if n, err := pitch.Number(h.Pitch); err == api.OK && n == wanted {
			return i, true
		}
	}
	return 0, false
}

// needChord returns the error of an event that is no chord.
func needChord(e api.Event) api.Errno {
	if e.Kind != api.Chord {
		return api.ErrKind
	}
	return api.OK
}

// Ties reports whether a head is tied, Untie returns an event without ties, and Joins reports whether all ties of an event find their pitches in another one.
func Ties(e api.Event) bool {
	return e.Kind == api.Chord && slices.ContainsFunc(e.Heads, func(h api.Head) bool { return h.Tied })
}

func Untie(e api.Event) api.Event {
	free := Clone(e)
	for i := range free.Heads {
		free.Heads[i].Tied = false
	}
	return free
}

func Joins(e, next api.Event) bool {
	if e.Kind != api.Chord {
		return true
	}
	lost := func(h api.Head) bool { return h.Tied && !(next.Kind == api.Chord && hasPitch(next, h.Pitch)) }
	return !slices.ContainsFunc(e.Heads, lost)
}

// hasPitch reports whether a head of an event has a pitch, spelled in the same way.
func hasPitch(e api.Event, p api.Pitch) bool {
	return slices.ContainsFunc(e.Heads, func(h api.Head) bool { return h.Pitch == p })
}

// Sounds reports whether an event has heads that sound.
func Sounds(e api.Event) bool { return e.Kind == api.Chord && len(e.Heads) > 0 }
