package pitch

import (
	"slices"

	"hemiola/api"
)

// Enharmonics returns all pitches with a semitone number, in the order of their steps, and Respell the one with the same number that is some steps away.
func Enharmonics(number int) ([]api.Pitch, api.Errno) {
	if e := checkNumber(number); e != api.OK {
		return nil, e
	}
	return enharmonics(number), api.OK
}

func checkNumber(number int) api.Errno {
	if number < 0 || number > MaxNumber {
		return api.ErrRange
	}
	return api.OK
}

// enharmonics returns the pitches with a number in its range: the lower the alteration, the higher the step.
func enharmonics(number int) []api.Pitch {
	var out []api.Pitch
	for _, alter := range slices.Backward([]int{-2, -1, 0, 1, 2}) {
		if p, ok := altered(number, alter); ok {
			out = append(out, p)
		}
	}
	return out
}

// altered returns the pitch with a number and an alteration, and whether there is one.
func altered(number, alter int) (api.Pitch, bool) {
	octave := floor(number-alter, semitones)
	for step, n := range numbers {
		p := api.Pitch{Step: step, Alter: alter, Octave: octave + minOctave}
		if n == number-alter-semitones*octave && Check(p) == api.OK {
			return p, true
		}
	}
	return api.Pitch{}, false
}

func Respell(p api.Pitch, steps int) (api.Pitch, api.Errno) {
	if e := Check(p); e != api.OK {
		return api.Pitch{}, e
	}
	for _, q := range enharmonics(number(p)) {
		if diatonic(q)-diatonic(p) == steps {
			return q, api.OK
		}
	}
	return api.Pitch{}, api.ErrPitch
}

// Simple returns the pitch with a semitone number that has no alteration, or else one sharp or one flat.
func Simple(number int, flat bool) (api.Pitch, api.Errno) {
	if e := checkNumber(number); e != api.OK {
		return api.Pitch{}, e
	}
	p, natural := altered(number, 0)
	switch {
	case natural:
		return p, api.OK
	case flat:
		p, _ = altered(number, -1)
	default:
		p, _ = altered(number, 1)
	}
	return p, api.OK
}
