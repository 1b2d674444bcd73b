package sample

import (
	"slices"
	"strconv"
	"strings"

	"hemiola/api"
	"hemiola/duration"
	"hemiola/metre"
	"hemiola/pitch"
	"hemiola/score"
)

// Read returns a score, numbered in its order. It has a part for each digit of parts, with so many staves in the clef 1 as the digit says, and a measure for each text: a time signature and options, a colon, and the cells, divided by semicolons. Options are a letter and a number: k key, l length, s repeat start, r repeat end, e endings, j jump, t labels. The voices of a cell are divided by bars, and have these words:
//
//	C4+E4~:4./la-/_  a dotted quarter note whose E4 is tied, with a hyphenated syllable and the extender of another verse
//	r:4  s:4  R      a rest, a skip, a measure rest
//	(3:2  )          the beginning and the end of a tuplet
//	@483840=2        a change to the clef 2
//
// What it cannot read it leaves out.
func Read(parts string, measures ...string) api.Score {
	var s api.Score
	for _, digit := range parts {
		s.Parts = append(s.Parts, api.Part{Staves: slices.Repeat([]api.Staff{{Clef: 1}}, int(digit-'0'))})
	}
	for _, text := range measures {
		s.Measures = append(s.Measures, readMeasure(text))
	}
	return score.Renumber(s)
}

func readMeasure(text string) api.Measure {
	var m api.Measure
	head, cells, _ := strings.Cut(text, " : ")
	for i, word := range strings.Fields(head) {
		if i == 0 {
			m.Metre, _ = metre.Parse(word)
			continue
		}
		setOption(&m, word[0], number(word[1:]))
	}
	for cell := range strings.SplitSeq(cells, ";") {
		m.Cells = append(m.Cells, readCell(cell))
	}
	return m
}

func setOption(m *api.Measure, letter byte, n int) {
	switch letter {
	case 'k':
		m.Fifths = n
	case 'l':
		m.Length = n
	case 's':
		m.RepeatStart = n != 0
	case 'r':
		m.RepeatEnd = n
	case 'e':
		m.Endings = n
	case 'j':
		m.Jump = n
	case 't':
		m.Labels = n
	}
}

// number returns the number in a text, or 0.
func number(text string) int {
	n, _ := strconv.Atoi(text)
	return n
}

func readCell(text string) api.Cell {
	var c api.Cell
	for part := range strings.SplitSeq(text, "|") {
		var v api.Voice
		for word := range strings.FieldsSeq(part) {
			if word[0] == '@' {
				at, clef, _ := strings.Cut(word[1:], "=")
				c.Clefs = append(c.Clefs, api.ClefChange{At: number(at), Clef: number(clef)})
				continue
			}
			readWord(&v, word)
		}
		c.Voices = append(c.Voices, v)
	}
	return c
}

// readWord adds an event to a voice, or begins or ends a tuplet.
func readWord(v *api.Voice, word string) {
	switch {
	case word[0] == '(':
		actual, normal, _ := strings.Cut(word[1:], ":")
		v.Tuplets = append(v.Tuplets, api.Tuplet{First: len(v.Events), Actual: number(actual), Normal: number(normal)})
	case word == ")":
		last := &v.Tuplets[len(v.Tuplets)-1]
		last.Count = len(v.Events) - last.First
	default:
		v.Events = append(v.Events, readEvent(word))
	}
}

func readEvent(word string) api.Event {
	word, lyrics, sung := strings.Cut(word, "/")
	name, value, _ := strings.Cut(word, ":")
	x := api.Event{}
	x.Value, _ = duration.Parse(value)
	switch name {
	case "r":
		x.Kind = api.Rest
	case "s":
		x.Kind = api.Skip
	case "R":
		x.Kind, x.Value = api.MeasureRest, api.Value{}
	default:
		x.Kind = api.Chord
		for head := range strings.SplitSeq(name, "+") {
			x.Heads = append(x.Heads, readHead(head))
		}
	}
	if sung {
		for syllable := range strings.SplitSeq(lyrics, "/") {
			x.Lyrics = append(x.Lyrics, readSyllable(syllable))
		}
	}
	return x
}

func readHead(text string) api.Head {
	name, tied := strings.CutSuffix(text, "~")
	p, _, _ := pitch.Parse(name)
	return api.Head{Pitch: p, Tied: tied}
}

func readSyllable(text string) api.Syllable {
	if word, hyphen := strings.CutSuffix(text, "-"); hyphen {
		return api.Syllable{Text: word, Link: api.Hyphen}
	}
	if word, extended := strings.CutSuffix(text, "_"); extended {
		return api.Syllable{Text: word, Link: api.Extender}
	}
	return api.Syllable{Text: text}
}
