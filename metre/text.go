package metre

import (
	"strconv"
	"strings"

	"hemiola/api"
)

// Text returns the text of a time signature, and Parse the time signature with a text.
func Text(m api.Metre) (string, api.Errno) {
	if e := Check(m); e != api.OK {
		return "", e
	}
	var counts []string
	for _, units := range named(m) {
		counts = append(counts, strconv.Itoa(units))
	}
	if counts == nil {
		counts = []string{strconv.Itoa(m.Count)}
	}
	return strings.Join(counts, "+") + "/" + strconv.Itoa(m.Unit), api.OK
}

func Parse(s string) (api.Metre, api.Errno) {
	if len(s) > MaxBytes {
		return api.Metre{}, api.ErrLong
	}
	// Numbers with a sign or with zeros before them are read, too, but no time signature has such a text.
	m := read(s)
	if text, e := Text(m); e != api.OK || text != s {
		return api.Metre{}, api.ErrSyntax
	}
	return m, api.OK
}

// read returns the time signature, valid or not, whose numbers stand in the right places of a text. If there is none, it returns the zero value, which is not valid.
func read(s string) api.Metre {
	var m api.Metre
	counts, unit, _ := strings.Cut(s, "/")
	words := strings.Split(counts, "+")
	if len(words) > len(m.Groups) {
		return api.Metre{}
	}
	for i, word := range words {
		units, err := strconv.Atoi(word)
		if err != nil {
			return api.Metre{}
		}
		m.Count += units
		if len(words) > 1 {
			m.Groups[i] = units
		}
	}
	m.Unit, _ = strconv.Atoi(unit)
	return m
}
