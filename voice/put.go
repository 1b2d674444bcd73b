package voice

import (
	"hemiola/api"
	"hemiola/event"
)

// Put replaces what is between two ticks by events that last as long.
func Put(v api.Voice, p Place, from, to int, x api.Voice) (api.Voice, api.Errno) {
	r, e := cut(v, p, from, to)
	if e != api.OK {
		return api.Voice{}, e
	}
	if e := checkNew(x, to-from); e != api.OK {
		return api.Voice{}, e
	}
	if from == to {
		return Clone(v), api.OK
	}
	shared, e := replace(r.voice, r.begin, r.end, func([]api.Event) (api.Voice, api.Errno) { return x, api.OK })
	if e != api.OK {
		return api.Voice{}, e
	}
	put := Clone(shared)
	untieLost(put.Events, r.begin-1)
	untieLost(put.Events, r.begin+len(x.Events)-1)
	return put, api.OK
}

// checkNew returns the first error of a voice that must be as long as what it replaces.
func checkNew(x api.Voice, length int) api.Errno {
	written, e := writtenLengths(x.Events)
	if e != api.OK {
		return e
	}
	if isMeasureRest(x) {
		return api.ErrKind
	}
	lengths, e := underTuplets(x.Tuplets, written)
	if e != api.OK {
		return e
	}
	if sum(lengths) != length {
		return api.ErrLength
	}
	return api.OK
}

// untieLost removes the ties of an event that do not find their pitches in the next one. The last event keeps its ties: they lead to the next measure.
func untieLost(events []api.Event, i int) {
	if i < 0 || i+1 >= len(events) {
		return
	}
	heads := events[i].Heads
	for k, h := range heads {
		alone := api.Event{Kind: api.Chord, Heads: []api.Head{h}}
		heads[k].Tied = h.Tied && event.Joins(alone, events[i+1])
	}
}

// Erase replaces what is between two ticks by rests.
func Erase(v api.Voice, p Place, from, to int) (api.Voice, api.Errno) {
	if _, e := cut(v, p, from, to); e != api.OK {
		return api.Voice{}, e
	}
	if from == 0 && to == p.Length {
		return api.Voice{Events: []api.Event{{Kind: api.MeasureRest}}}, api.OK
	}
	rests, e := Rests(p.Metre, p.Offset+from, p.Offset+to)
	if e != api.OK {
		return api.Voice{}, e
	}
	return Put(v, p, from, to, api.Voice{Events: rests})
}
