package duration

import (
	"strings"

	"hemiola/api"
)

// maxText is the length of the longest text of a note value.
const maxText = 6

// The texts and the names of the note values without dots, and the names of their dots.
var (
	texts    = [...]string{"b", "1", "2", "4", "8", "16", "32", "64", "128", "256"}
	names    = [...]string{"double whole", "whole", "half", "quarter", "eighth", "16th", "32nd", "64th", "128th", "256th"}
	dotNames = [...]string{"", "dotted ", "double-dotted ", "triple-dotted "}
)

// Text returns the text of a note value, and Parse the note value with a text.
func Text(v api.Value) (string, api.Errno) {
	if e := Check(v); e != api.OK {
		return "", e
	}
	return texts[v.Log-MinLog] + strings.Repeat(".", v.Dots), api.OK
}

func Parse(s string) (api.Value, api.Errno) {
	if s == "" {
		return api.Value{}, api.ErrShort
	}
	if len(s) > maxText {
		return api.Value{}, api.ErrLong
	}
	undotted := strings.TrimRight(s, ".")
	for i, text := range texts {
		v := api.Value{Log: i + MinLog, Dots: len(s) - len(undotted)}
		if text == undotted && Check(v) == api.OK {
			return v, api.OK
		}
	}
	return api.Value{}, api.ErrSyntax
}

// Name returns the English name of a note value.
func Name(v api.Value) (string, api.Errno) {
	if e := Check(v); e != api.OK {
		return "", e
	}
	return dotNames[v.Dots] + names[v.Log-MinLog], api.OK
}
