package voice

import (
	"slices"

	"hemiola/api"
	"hemiola/event"
	"hemiola/tuplet"
)

// Simplify joins neighbouring rests, and chords that are tied wholly, as far as the metre permits.
func Simplify(v api.Voice, p Place) (api.Voice, api.Errno) {
	if e := checkPlace(v, p); e != api.OK {
		return api.Voice{}, e
	}
	onsets, _ := Onsets(v, p.Length) // checkPlace has checked it
	ticks := append(onsets, p.Length)
	simple, next := v, runs(v)
	for begin, end := next(); begin < end; begin, end = next() {
		// There is no error: a run is never replaced by more events.
		simple, _ = replace(simple, begin, end, func(run []api.Event) (api.Voice, api.Errno) {
			return api.Voice{Events: joined(run, p.Metre, p.Offset+ticks[begin], p.Offset+ticks[end])}, api.OK
		})
	}
	return Clone(simple), api.OK
}

// runs returns a function that returns the runs of a voice: the first event of each, and the event after its last one; at the end it returns 0 twice. The last run comes first, so that replacing it does not move those that follow.
func runs(v api.Voice) func() (begin, end int) {
	at := len(v.Events)
	return func() (int, int) {
		for at > 0 {
			end := at
			at--
			for at > 0 && linked(v, at) {
				at--
			}
			if end-at > 1 {
				return at, end
			}
		}
		return 0, 0
	}
}

// linked reports whether an event is in the same run as the one before it.
func linked(v api.Voice, i int) bool {
	if tuplet.Depth(v.Tuplets, i-1) > 0 || tuplet.Depth(v.Tuplets, i) > 0 {
		return false
	}
	before, x := v.Events[i-1], v.Events[i]
	if before.Kind != api.Chord && !repeats(before, before) {
		return false // A rest with a dynamic or a fermata is in no run.
	}
	open := slices.ContainsFunc(before.Heads, func(h api.Head) bool { return !h.Tied })
	return !open && repeats(before, x)
}

// repeats reports whether an event is like a further note of another one, up to its id, its value and its ties.
func repeats(x, next api.Event) bool {
	note := further(x)
	note.Value = next.Value
	return event.Same(event.Untie(note), event.Untie(next))
}

// joined returns the notes that replace a run from a tick of a metre to another one: the run itself, if they are not fewer, or there are none.
func joined(run []api.Event, m api.Metre, from, to int) []api.Event {
	x := event.Clone(run[0])
	for i, h := range run[len(run)-1].Heads {
		x.Heads[i].Tied = h.Tied
	}
	notes, e := Notes(x, m, from, to)
	if e != api.OK || len(notes) >= len(run) {
		return run
	}
	for i := range notes {
		notes[i].ID = run[i].ID
	}
	return notes
}
