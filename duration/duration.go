// Package duration converts note values into ticks, and decomposes durations into note values. It is layer 2: see shared/doc/02-duration.md.
package duration

import (
	"iter"
	"slices"

	"hemiola/api"
)

// The limits of note values, of durations that are decomposed, and of lists.
const (
	MinLog   = -1
	MaxLog   = 8
	MaxDots  = 3
	MaxTicks = 4 * api.Whole
	MaxList  = 1024
)

// Check returns the error of a note value, and Ticks its duration.
func Check(v api.Value) api.Errno {
	if v.Log < MinLog || v.Log > MaxLog || v.Dots < 0 || v.Dots > MaxDots {
		return api.ErrValue
	}
	return api.OK
}

func Ticks(v api.Value) (int, api.Errno) {
	if e := Check(v); e != api.OK {
		return 0, e
	}
	return length(v), api.OK
}

// length returns the duration of a valid note value.
func length(v api.Value) int {
	undotted := 2 * api.Whole >> (v.Log - MinLog)
	ticks := undotted
	for dot := range v.Dots {
		ticks += undotted >> (dot + 1)
	}
	return ticks
}

// Find returns the note value with a duration.
func Find(ticks int) (api.Value, api.Errno) {
	for v := range values() {
		if length(v) == ticks {
			return v, api.OK
		}
	}
	return api.Value{}, api.ErrValue
}

// All returns all note values, the longest one first.
func All() []api.Value { return slices.Collect(values()) }

// values yields all note values, the longest one first: one with dots is shorter than the next longer one without.
func values() iter.Seq[api.Value] {
	return func(yield func(api.Value) bool) {
		for log := MinLog; log <= MaxLog; log++ {
			for dots := MaxDots; dots >= 0; dots-- {
				if !yield(api.Value{Log: log, Dots: dots}) {
					return
				}
			}
		}
	}
}

// Sum returns the duration of note values one after another.
func Sum(l []api.Value) (int, api.Errno) {
	if len(l) > MaxList {
		return 0, api.ErrLong
	}
	sum := 0
	for _, v := range l {
		ticks, e := Ticks(v)
		if e != api.OK {
			return 0, e
		}
		sum += ticks
	}
	return sum, api.OK
}

// Scale returns the note value that is twice as long as often as a number says, or half as long for a negative number.
func Scale(v api.Value, by int) (api.Value, api.Errno) {
	scaled := api.Value{Log: v.Log - by, Dots: v.Dots}
	if Check(v) != api.OK || Check(scaled) != api.OK {
		return api.Value{}, api.ErrValue
	}
	return scaled, api.OK
}

// Flags returns the number of flags or beams of a note value, and Stemmed whether its notes have stems.
func Flags(v api.Value) int {
	if Check(v) != api.OK || v.Log < 3 {
		return 0
	}
	return v.Log - 2
}

func Stemmed(v api.Value) bool { return Check(v) == api.OK && v.Log >= 1 }
