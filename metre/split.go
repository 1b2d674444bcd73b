package metre

import (
	"slices"

	"hemiola/api"
	"hemiola/duration"
)

// maxDots is the greatest number of dots of the note values of Split.
const maxDots = 2

// Split returns the note values by which the duration from a tick to another one is written.
func Split(m api.Metre, from, to int) ([]api.Value, api.Errno) {
	if e := checkSpan(m, from, to); e != api.OK {
		return nil, e
	}
	if from == to {
		return nil, api.OK
	}
	g := gridOf(m)
	var levels []int
	for at := from; at <= to; at += Finest {
		levels = append(levels, g.level(at))
	}
	return divide(nil, levels), api.OK
}

// checkSpan returns the first error of the arguments of Split.
func checkSpan(m api.Metre, from, to int) api.Errno {
	if e := Check(m); e != api.OK {
		return e
	}
	switch {
	case from < 0 || to < from || to > api.MaxTime:
		return api.ErrRange
	case from%Finest != 0 || to%Finest != 0:
		return api.ErrTick
	case to-from > MaxSpan:
		return api.ErrLong
	}
	return api.OK
}

// divide appends the note values of a duration, given the levels of the multiples of Finest from its first tick to its end. Ticks between them have the level None, so they never divide it.
func divide(out []api.Value, levels []int) []api.Value {
	if v, ok := simple(levels); ok {
		return append(out, v)
	}
	within := levels[1 : len(levels)-1]
	at := 1 + slices.Index(within, slices.Min(within))
	return divide(divide(out, levels[:at+1]), levels[at:])
}

// simple returns the note value of a duration, and whether it is simple. The shortest one is: there is nothing within it.
func simple(levels []int) (api.Value, bool) {
	last := len(levels) - 1
	v, e := duration.Find(last * Finest)
	if e != api.OK || v.Dots > maxDots {
		return api.Value{}, false
	}
	for _, level := range levels[1:last] {
		if level < levels[0] || v.Dots == 0 && level < levels[last] {
			return api.Value{}, false
		}
	}
	return v, true
}
