package interval

import (
	"cmp"
	"slices"

	"hemiola/api"
	"hemiola/pitch"
)

// place is where a pitch is: its staff position, and its number.
type place struct{ position, number int }

// placeOf returns the place of a pitch, or ErrPitch.
func placeOf(p api.Pitch) (place, api.Errno) {
	position, e := pitch.Diatonic(p)
	if e != api.OK {
		return place{}, e
	}
	number, e := pitch.Number(p)
	return place{position, number}, e
}

// Between returns the interval from a pitch to another one.
func Between(from, to api.Pitch) (api.Interval, api.Errno) {
	a, e := placeOf(from)
	if e != api.OK {
		return api.Interval{}, e
	}
	b, e := placeOf(to)
	if e != api.OK {
		return api.Interval{}, e
	}
	return api.Interval{Steps: b.position - a.position, Semitones: b.number - a.number}, api.OK
}

// Exact returns the pitch at an interval from another one, spelled as the interval says.
func Exact(p api.Pitch, i api.Interval) (api.Pitch, api.Errno) {
	target, sounding, e := reach(p, i)
	if e != api.OK {
		return api.Pitch{}, e
	}
	at := slices.IndexFunc(sounding, func(q api.Pitch) bool { return distance(q, target) == 0 })
	if at < 0 {
		return api.Pitch{}, api.ErrPitch
	}
	return sounding[at], api.OK
}

// Transpose returns the pitch at an interval from another one, respelled as near as possible if there is none that is spelled as the interval says.
func Transpose(p api.Pitch, i api.Interval) (api.Pitch, api.Errno) {
	target, sounding, e := reach(p, i)
	if e != api.OK {
		return api.Pitch{}, e
	}
	// The pitches are ordered from the lowest one on, and MinFunc returns the first of those that are equally near.
	return slices.MinFunc(sounding, func(a, b api.Pitch) int {
		return cmp.Compare(distance(a, target), distance(b, target))
	}), api.OK
}

// reach returns the staff position to which an interval leads from a pitch, and all pitches with the number to which it leads, of which there is at least one.
func reach(p api.Pitch, i api.Interval) (position int, sounding []api.Pitch, e api.Errno) {
	from, e := placeOf(p)
	if e != api.OK {
		return 0, nil, e
	}
	if e := Check(i); e != api.OK {
		return 0, nil, e
	}
	sounding, e = pitch.Enharmonics(from.number + i.Semitones)
	if e != api.OK || len(sounding) == 0 {
		return 0, nil, api.ErrPitch
	}
	return from.position + i.Steps, sounding, api.OK
}

// distance returns how many steps a valid pitch is away from a staff position.
func distance(p api.Pitch, position int) int {
	at, _ := pitch.Diatonic(p)
	return max(at-position, position-at)
}

// Enharmonics returns all pitches that sound like a pitch, from the lowest staff position on.
func Enharmonics(p api.Pitch) ([]api.Pitch, api.Errno) {
	number, e := pitch.Number(p)
	if e != api.OK {
		return nil, e
	}
	return pitch.Enharmonics(number)
}
