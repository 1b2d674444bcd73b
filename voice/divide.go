package voice

import (
	"slices"

	"hemiola/api"
	"hemiola/event"
	"hemiola/metre"
	"hemiola/tuplet"
)

// Place is a measure with a length, a metre, and the tick of the metre at which the measure begins.
type Place struct {
	Metre          api.Metre
	Offset, Length int
}

// checkPlace returns the first error of a place, and of a voice in it.
func checkPlace(v api.Voice, p Place) api.Errno {
	if e := metre.Check(p.Metre); e != api.OK {
		return e
	}
	if p.Offset < 0 || p.Offset > MaxLength {
		return api.ErrRange
	}
	return Check(v, p.Length)
}

// checkRegion returns the first error of a place, of a voice in it that must not be absent, and of two ticks in order.
func checkRegion(v api.Voice, p Place, from, to int) api.Errno {
	if e := checkPlace(v, p); e != api.OK {
		return e
	}
	if len(v.Events) == 0 {
		return api.ErrState
	}
	if from < 0 || to < from || to > p.Length {
		return api.ErrRange
	}
	return api.OK
}

// Divide divides the event that lasts at a tick, so that an event begins there.
func Divide(v api.Voice, p Place, tick int) (api.Voice, api.Errno) {
	if e := checkRegion(v, p, tick, tick); e != api.OK {
		return api.Voice{}, e
	}
	divided, e := divide(v, p, tick)
	return Clone(divided), e
}

// divide divides a voice at a tick. The arguments are checked; the result shares the lists of the voice.
func divide(v api.Voice, p Place, tick int) (api.Voice, api.Errno) {
	lengths, _ := Lengths(v, p.Length) // checkRegion has checked it
	i, from, to := lasting(lengths, tick)
	if from == tick {
		return v, api.OK
	}
	if tuplet.Depth(v.Tuplets, i) > 0 {
		return api.Voice{}, api.ErrFit
	}
	return replace(v, i, i+1, func(region []api.Event) (api.Voice, api.Errno) {
		return halves(region[0], p, from, tick, to)
	})
}

// halves returns the notes of an event up to a tick, and from there on.
func halves(x api.Event, p Place, from, tick, to int) (api.Voice, api.Errno) {
	if x.Kind == api.MeasureRest {
		x.Kind = api.Rest // its value is that of a whole rest
	}
	held := event.Clone(x)
	tie(held)
	before, e := Notes(held, p.Metre, p.Offset+from, p.Offset+tick)
	if e != api.OK {
		return api.Voice{}, e
	}
	after, e := Notes(further(x), p.Metre, p.Offset+tick, p.Offset+to)
	if e != api.OK {
		return api.Voice{}, e
	}
	return api.Voice{Events: append(before, after...)}, api.OK
}

// replace returns a voice in which the events from begin up to end, and their tuplets, are replaced by those that a function makes of them. No tuplet contains some of these events and others. The result shares the lists of the voice.
func replace(v api.Voice, begin, end int, by func(region []api.Event) (api.Voice, api.Errno)) (api.Voice, api.Errno) {
	x, e := by(v.Events[begin:end])
	if e != api.OK {
		return api.Voice{}, e
	}
	out := api.Voice{Events: slices.Concat(v.Events[:begin], x.Events, v.Events[end:])}
	first, last := tupletsFrom(v.Tuplets, begin), tupletsFrom(v.Tuplets, end)
	out.Tuplets = slices.Concat(v.Tuplets[:first], moved(x.Tuplets, begin), moved(v.Tuplets[last:], begin+len(x.Events)-end))
	if len(out.Events) > api.MaxEvents || len(out.Tuplets) > api.MaxTuplets {
		return api.Voice{}, api.ErrLimit
	}
	return out, api.OK
}

// tupletsFrom returns the index of the first tuplet that begins with an event or later.
func tupletsFrom(l []api.Tuplet, first int) int {
	i := 0
	for i < len(l) && l[i].First < first {
		i++
	}
	return i
}

// moved returns tuplets that begin a number of events later.
func moved(l []api.Tuplet, by int) []api.Tuplet {
	out := slices.Clone(l)
	for i := range out {
		out[i].First += by
	}
	return out
}

// region is a voice in which events begin at two ticks (or it ends there), with the events between them: from begin up to end.
type region struct {
	voice      api.Voice
	begin, end int
}

// Cut returns the events between two ticks, with the tuplets that they contain.
func Cut(v api.Voice, p Place, from, to int) (api.Voice, api.Errno) {
	r, e := cut(v, p, from, to)
	if e != api.OK {
		return api.Voice{}, e
	}
	l := r.voice.Tuplets
	within := l[tupletsFrom(l, r.begin):tupletsFrom(l, r.end)]
	return Clone(api.Voice{Events: r.voice.Events[r.begin:r.end], Tuplets: moved(within, -r.begin)}), api.OK
}

// cut returns a voice that was divided at two ticks, with the events between them. It shares the lists of the voice.
func cut(v api.Voice, p Place, from, to int) (region, api.Errno) {
	if e := checkRegion(v, p, from, to); e != api.OK {
		return region{}, e
	}
	for _, tick := range []int{from, to} {
		divided, e := divide(v, p, tick)
		if e != api.OK {
			return region{}, e
		}
		v = divided
	}
	lengths, _ := Lengths(v, p.Length) // dividing leads to a valid voice
	r := region{voice: v}
	r.begin, _, _ = lasting(lengths, from)
	r.end, _, _ = lasting(lengths, to)
	if slices.ContainsFunc(v.Tuplets, r.breaks) {
		return region{}, api.ErrFit
	}
	return r, api.OK
}

// breaks reports whether a tuplet contains events of a region and others.
func (r region) breaks(t api.Tuplet) bool {
	within := min(t.First+t.Count, r.end) - max(t.First, r.begin)
	return within > 0 && within < t.Count
}
