package key

import (
	"strings"

	"hemiola/api"
)

// letters are the letters of the steps.
const letters = "CDEFGAB"

// The words that end the names of keys.
const (
	majorWord = " major"
	minorWord = " minor"
)

// maxTonic is the greatest alteration of a tonic.
const maxTonic = 1

// signs are the names of the alterations of tonics, from the lowest one on.
var signs = [2*maxTonic + 1]string{"b", "", "#"}

// Name returns the name of a key, and Parse the key with a name.
func Name(fifths int, minor bool) (string, api.Errno) {
	if e := Check(fifths); e != api.OK {
		return "", e
	}
	step, alter := tonic(fifths, minor)
	return letters[step:step+1] + signs[alter+maxTonic] + word(minor), api.OK
}

// word returns the word that ends the name of a major or a minor key.
func word(minor bool) string {
	if minor {
		return minorWord
	}
	return majorWord
}

func Parse(s string) (fifths int, minor bool, e api.Errno) {
	name, major := strings.CutSuffix(s, majorWord)
	if !major {
		name, minor = strings.CutSuffix(s, minorWord)
	}
	if name == "" || !major && !minor {
		return 0, false, api.ErrName
	}
	step, known := steps()[name[0]]
	alter, written := parseSign(name[1:])
	if !known || !written {
		return 0, false, api.ErrName
	}
	fifths, e = Of(step, alter, minor)
	if e != api.OK {
		return 0, false, api.ErrName
	}
	return fifths, minor, api.OK
}

// steps returns the steps of the letters.
func steps() map[byte]int {
	out := make(map[byte]int, len(letters))
	for step := range len(letters) {
		out[letters[step]] = step
	}
	return out
}

// parseSign returns the alteration of a tonic with a name, and whether there is one.
func parseSign(name string) (alter int, ok bool) {
	for i, sign := range signs {
		if sign == name {
			return i - maxTonic, true
		}
	}
	return 0, false
}
