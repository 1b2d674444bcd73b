package parser

import (
	"maps"
	"slices"
)

// words are the words that stand for numbers, from 1 on.
type words struct{ jumps, breaks, signs, spanners map[string]int }

// The numbers of the words in brackets, by groups. Those of articulations count the bits.
const (
	firstOrnament = 6
	firstDynamic  = 10
	firstStem     = 19
	firstBeam     = 21
	behindBeam    = 23
)

func newWords() words {
	return words{
		jumps:  numbers("dacapo", "dacapofine", "dacapocoda", "dalsegno", "dalsegnofine", "dalsegnocoda"),
		breaks: numbers("system", "page", "never"),
		signs: numbers(
			"staccato", "tenuto", "accent", "marcato", "fermata",
			"trill", "mordent", "inverse", "turn",
			"ppp", "pp", "p", "mp", "mf", "f", "ff", "fff", "sfz",
			"up", "down",
			"apart", "join",
		),
		spanners: numbers("slur", "crescendo", "diminuendo", "octaveup", "octavedown", "pedal", "trill"),
	}
}

// numbers returns the numbers of words, from 1 on.
func numbers(words ...string) map[string]int {
	out := map[string]int{}
	for i, word := range words {
		out[word] = i + 1
	}
	return out
}

// Keywords returns the words with a meaning, in increasing order.
func Keywords() []string {
	l := []string{
		"score", "written", "last", "part", "transpose", "staff", "measure",
		"metre", "length", "key", "repeat", "times", "endings", "jump", "segno", "coda", "fine", "tocoda", "swing", "break", "mark", "tempo", "ramp",
		"clef", "grace",
	}
	known := newWords()
	for _, numbers := range []map[string]int{known.jumps, known.breaks, known.signs, known.spanners} {
		l = slices.AppendSeq(l, maps.Keys(numbers))
	}
	slices.Sort(l)
	return slices.Compact(l)
}
