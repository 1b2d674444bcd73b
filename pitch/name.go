package pitch

import (
	"strconv"
	"strings"

	"hemiola/api"
)

// letters are the names of the steps.
const letters = "CDEFGAB"

// signs are the names of the alterations, from the lowest one on.
var signs = [2*maxAlter + 1]string{"bb", "b", "", "#", "##"}

// Name returns the name of a pitch, and Parse the pitch of a name, or the offset of the first error and the error.
func Name(p api.Pitch) (string, api.Errno) {
	if e := Check(p); e != api.OK {
		return "", e
	}
	return letters[p.Step:p.Step+1] + signs[p.Alter+maxAlter] + strconv.Itoa(p.Octave), api.OK
}

func Parse(s string) (p api.Pitch, at int, e api.Errno) {
	if s == "" {
		return api.Pitch{}, 0, api.ErrShort
	}
	step := strings.IndexByte(letters, s[0])
	if step < 0 {
		return api.Pitch{}, 0, api.ErrByte
	}
	digits := strings.TrimLeft(s[1:], "b#")
	alter, known := parseSign(s[1 : len(s)-len(digits)])
	octave, exists := parseOctave(digits)
	if !known || !exists {
		return api.Pitch{}, 1, api.ErrFormat
	}
	p = api.Pitch{Step: step, Alter: alter, Octave: octave}
	if e := Check(p); e != api.OK {
		return api.Pitch{}, 0, e
	}
	return p, 0, api.OK
}

// parseSign returns the alteration with a name, and whether there is one.
func parseSign(s string) (int, bool) {
	for i, sign := range signs {
		if sign == s {
			return i - maxAlter, true
		}
	}
	return 0, false
}

// parseOctave returns the octave that is written in s, and whether there is one.
func parseOctave(s string) (int, bool) {
	for octave := minOctave; octave <= maxOctave; octave++ {
		if strconv.Itoa(octave) == s {
			return octave, true
		}
	}
	return 0, false
}
