package check

import (
	"slices"

	"hemiola/api"
	"hemiola/clef"
	"hemiola/event"
	"hemiola/key"
	"hemiola/measure"
	"hemiola/pitch"
	"hemiola/voice"
)

// highest is the greatest semitone number.
const highest = 127

// structure looks for measures that lack cells or voices.
func (c *checker) structure() {
	for _, m := range c.score.Measures {
		if len(m.Cells) != c.staves || slices.ContainsFunc(m.Cells, lacksVoice) {
			c.violated(m.ID)
		}
	}
}

// lacksVoice reports whether the first or the last voice of a cell is absent. As there are at most two, no other one can be, with or without tuplets.
func lacksVoice(cell api.Cell) bool {
	n := len(cell.Voices)
	return n == 0 || !present(cell.Voices[0]) || !present(cell.Voices[n-1])
}

func present(v api.Voice) bool { return len(v.Events) > 0 }

// clefs looks for clefs that do not exist, and changes that are not in order.
func (c *checker) clefs() {
	for _, p := range c.score.Parts {
		for _, s := range p.Staves {
			if clef.Check(s.Clef) != api.OK {
				c.violated(s.ID)
			}
		}
	}
	for _, m := range c.score.Measures {
		length, e := measure.Length(m)
		if e == api.OK && slices.ContainsFunc(m.Cells, func(cell api.Cell) bool { return !properClefs(cell.Clefs, length) }) {
			c.violated(m.ID)
		}
	}
}

// properClefs reports whether the clef changes of a cell are valid, increase, and lie within the measure.
func properClefs(l []api.ClefChange, length int) bool {
	before := -1
	for _, change := range l {
		if clef.Check(change.Clef) != api.OK || change.At <= before || change.At >= length {
			return false
		}
		before = change.At
	}
	return true
}

// metres looks for measures without a length, and for key signatures that do not exist, be it only in a transposed part.
func (c *checker) metres() {
	for _, m := range c.score.Measures {
		if _, e := measure.Length(m); e != api.OK || key.Check(m.Fifths) != api.OK || c.score.Written && !c.transposable(m.Fifths) {
			c.violated(m.ID)
		}
	}
}

// transposable reports whether a key signature exists in all parts.
func (c *checker) transposable(fifths int) bool {
	for _, p := range c.score.Parts {
		if _, e := key.Transpose(fifths, p.Transpose); e != api.OK {
			return false
		}
	}
	return true
}

// voices looks for voices that do not fill their measures, and tuplets for tuplets that are not proper.
func (c *checker) voices() {
	c.voiceErrors(func(e api.Errno) bool { return e == api.ErrKind || e == api.ErrLength })
}

func (c *checker) tuplets() {
	c.voiceErrors(func(e api.Errno) bool { return e != api.ErrKind && e != api.ErrLength })
}

// voiceErrors looks for measures with a voice that has an error which violates the rule. Voices with an event that is not well-formed are left out: their error is that of the event.
func (c *checker) voiceErrors(violates func(api.Errno) bool) {
	for i, m := range c.score.Measures {
		if slices.ContainsFunc(c.faultyVoices(i), violates) {
			c.violated(m.ID)
		}
	}
}

// faultyVoices returns the errors of the voices of a measure whose events are well-formed. They are kept, because two rules need them.
func (c *checker) faultyVoices(index int) []api.Errno {
	if c.faults == nil {
		for _, m := range c.score.Measures {
			c.faults = append(c.faults, faultsOf(m))
		}
	}
	return c.faults[index]
}

func faultsOf(m api.Measure) []api.Errno {
	length, e := measure.Length(m)
	if e != api.OK {
		return nil
	}
	var l []api.Errno
	for _, cell := range m.Cells {
		for _, v := range cell.Voices {
			if e := voice.Check(v, length); e != api.OK && !slices.ContainsFunc(v.Events, malformed) {
				l = append(l, e)
			}
		}
	}
	return l
}

func malformed(x api.Event) bool { return event.Check(x) != api.OK }

// events looks for events that are not well-formed.
func (c *checker) events() {
	for _, x := range c.allEvents() {
		if malformed(x) {
			c.violated(x.ID)
		}
	}
}

// pitches looks for heads and grace notes that are too low or too high in the form, sounding or written, in which they are not given.
func (c *checker) pitches() {
	var semitones []int // of each staff
	for _, p := range c.score.Parts {
		for range p.Staves {
			semitones = append(semitones, p.Transpose.Semitones)
		}
	}
	for place, x := range c.allEvents() {
		shift := 0
		if place.Staff < len(semitones) {
			shift = semitones[place.Staff]
		}
		if c.score.Written {
			shift = -shift
		}
		if hasBeyond(x, shift) && !malformed(x) {
			c.violated(x.ID)
		}
	}
}

// hasBeyond reports whether a head or a grace note of an event is too low or too high if it is moved by some semitones.
func hasBeyond(x api.Event, semitones int) bool {
	return slices.ContainsFunc(x.Heads, func(h api.Head) bool { return beyond(h.Pitch, semitones) }) ||
		slices.ContainsFunc(x.Graces, func(g api.Grace) bool { return beyond(g.Pitch, semitones) })
}

// beyond reports whether a pitch that is moved by some semitones is too low or too high.
func beyond(p api.Pitch, semitones int) bool {
	n, _ := pitch.Number(p)
	return !fromTo(n+semitones, 0, highest)
}
