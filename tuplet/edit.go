package tuplet

import (
	"slices"

	"hemiola/api"
)

// Insert returns the tuplets after a number of events were inserted before an event, and Delete after some were deleted.
func Insert(l []api.Tuplet, events, at, count int) ([]api.Tuplet, api.Errno) {
	if e := Check(l, events); e != api.OK {
		return nil, e
	}
	if at < 0 || at > events || count < 0 || count > api.MaxEvents-events {
		return nil, api.ErrRange
	}
	out := slices.Clone(l)
	for i, t := range l {
		switch {
		case t.First >= at:
			out[i].First += count
		case end(t) > at:
			out[i].Count += count
		}
	}
	return out, api.OK
}

func Delete(l []api.Tuplet, events, at, count int) ([]api.Tuplet, api.Errno) {
	if e := Check(l, events); e != api.OK {
		return nil, e
	}
	if at < 0 || count < 0 || count > events-at {
		return nil, api.ErrRange
	}
	// left returns how many of the events before an event are left.
	left := func(event int) int {
		return event - min(max(event-at, 0), count)
	}
	var out []api.Tuplet
	for _, t := range l {
		first := left(t.First)
		if t.Count = left(end(t)) - first; t.Count > 0 {
			t.First = first
			out = append(out, t)
		}
	}
	return Canonical(out), api.OK
}
