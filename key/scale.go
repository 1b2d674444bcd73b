package key

import (
	"slices"

	"hemiola/api"
)

// minorFifths is by how much the place of the minor tonic on the line of fifths is greater than that of the major one.
const minorFifths = 3

// firstPlace is the place of F on the line of fifths.
const firstPlace = -1

// tonicPlace returns the place on the line of fifths of the tonic of the key without sharps and flats.
func tonicPlace(minor bool) int {
	if minor {
		return minorFifths
	}
	return 0
}

// Tonic returns the step and the alteration of the tonic of the major (or minor) key, and Of the signature of the key with a tonic.
func Tonic(fifths int, minor bool) (step, alter int, e api.Errno) {
	if e := Check(fifths); e != api.OK {
		return 0, 0, e
	}
	step, alter = tonic(fifths, minor)
	return step, alter, api.OK
}

// tonic returns the pitch class of the tonic of a key.
func tonic(fifths int, minor bool) (step, alter int) {
	above := fifths + tonicPlace(minor) - firstPlace
	for above < 0 {
		above += octaveSteps
		alter--
	}
	return sharps[above%octaveSteps], alter + above/octaveSteps
}

func Of(step, alter int, minor bool) (int, api.Errno) {
	if !isClass(step, alter) {
		return 0, api.ErrPitch
	}
	order := sharps
	fifths := slices.Index(order[:], step) + firstPlace + semitoneFifths*alter - tonicPlace(minor)
	if e := Check(fifths); e != api.OK {
		return 0, e
	}
	return fifths, api.OK
}

// Scale returns the seven pitches of the major (or natural minor) scale from the tonic on, which is in an octave.
func Scale(fifths int, minor bool, octave int) ([]api.Pitch, api.Errno) {
	if e := Check(fifths); e != api.OK {
		return nil, e
	}
	first, _ := tonic(fifths, minor)
	// With another tonic than C, the last pitches are in the next octave.
	if octave < minOctave || octave > maxOctave || octave == maxOctave && first > 0 {
		return nil, api.ErrPitch
	}
	out := make([]api.Pitch, octaveSteps)
	for degree := range out {
		above := first + degree
		step := above % octaveSteps
		out[degree] = api.Pitch{Step: step, Alter: alter(fifths, step), Octave: octave + above/octaveSteps}
	}
	return out, api.OK
}

// Diatonic reports whether a pitch belongs to the scale of a signature, and Degree returns its degree in the major scale, from 0 on, and by how much it is raised.
func Diatonic(fifths int, p api.Pitch) bool {
	return Check(fifths) == api.OK && isStep(p.Step) && p.Alter == alter(fifths, p.Step)
}

func Degree(fifths int, p api.Pitch) (degree, raised int, e api.Errno) {
	if e := Check(fifths); e != api.OK {
		return 0, 0, e
	}
	if !isClass(p.Step, p.Alter) {
		return 0, 0, api.ErrPitch
	}
	first, _ := tonic(fifths, false)
	return (p.Step - first + octaveSteps) % octaveSteps, p.Alter - alter(fifths, p.Step), api.OK
}
