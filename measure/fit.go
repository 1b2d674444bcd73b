package measure

import (
	"slices"

	"hemiola/api"
	"hemiola/metre"
	"hemiola/voice"
)

// maxStaves is the greatest number of staves of a score.
const maxStaves = api.MaxParts * api.MaxStaves

// Blank returns a measure with rests in all staves, without ids.
func Blank(metre api.Metre, length, fifths, staves int) (api.Measure, api.Errno) {
	m, e := timed(api.Measure{Fifths: fifths}, metre, length)
	if e != api.OK {
		return api.Measure{}, e
	}
	if !isKey(fifths) || staves < 1 || staves > maxStaves {
		return api.Measure{}, api.ErrRange
	}
	for range staves {
		rest := api.Voice{Events: []api.Event{{Kind: api.MeasureRest}}}
		m.Cells = append(m.Cells, api.Cell{Voices: []api.Voice{rest}})
	}
	return m, api.OK
}

// timed returns a measure with another time signature and length, or the error of its length. Its Length is zero if it is the usual one. It shares the lists of the measure.
func timed(m api.Measure, signature api.Metre, length int) (api.Measure, api.Errno) {
	m.Metre, m.Length = signature, length
	if _, e := Length(m); e != api.OK {
		return api.Measure{}, e
	}
	if usual, _ := metre.Length(signature); length == usual {
		m.Length = 0
	}
	return m, api.OK
}

// SetVoice returns a measure with another voice.
func SetVoice(m api.Measure, staff, voice int, v api.Voice) (api.Measure, api.Errno) {
	length, e := Length(m)
	switch {
	case e != api.OK:
		return api.Measure{}, e
	case !hasStaff(m, staff) || voice < 0 || voice >= api.MaxVoices:
		return api.Measure{}, api.ErrRange
	case !present(v) && voice == 0:
		return api.Measure{}, api.ErrState
	}
	if e := checkVoice(v, length); e != api.OK {
		return api.Measure{}, e
	}
	out := Clone(m)
	out.Cells[staff].Voices = withVoice(out.Cells[staff].Voices, voice, v)
	return out, api.OK
}

// withVoice changes a voice of a list: absent ones are added before it, and removed at the end.
func withVoice(l []api.Voice, index int, v api.Voice) []api.Voice {
	for len(l) <= index {
		l = append(l, api.Voice{})
	}
	l[index] = voice.Clone(v)
	for len(l) > 0 && !present(l[len(l)-1]) {
		l = l[:len(l)-1]
	}
	return l
}

// Fit returns a measure with another metre and length, whose voices are cut or filled with rests.
func Fit(m api.Measure, metre api.Metre, length int) (api.Measure, api.Errno) {
	before, e := Place(m)
	if e != api.OK {
		return api.Measure{}, e
	}
	fitted, e := timed(Clone(m), metre, length)
	if e != api.OK {
		return api.Measure{}, e
	}
	after, _ := Place(fitted) // timed has checked its length
	fitted.Tempi = slices.DeleteFunc(fitted.Tempi, func(t api.TempoMark) bool { return t.At >= after.Length })
	for i := range fitted.Cells {
		if e := fitCell(&fitted.Cells[i], before, after); e != api.OK {
			return api.Measure{}, e
		}
	}
	return fitted, api.OK
}

// fitCell fits the voices of a cell from one place to another one, and removes the clef changes beyond its end.
func fitCell(c *api.Cell, before, after voice.Place) api.Errno {
	c.Clefs = slices.DeleteFunc(c.Clefs, func(change api.ClefChange) bool { return change.At >= after.Length })
	for i, v := range c.Voices {
		if !present(v) || isMeasureRest(v) || before.Length == after.Length {
			continue
		}
		fitted, e := fitVoice(v, before, after)
		if e != api.OK {
			return e
		}
		c.Voices[i] = fitted
	}
	return api.OK
}

// isMeasureRest reports whether a voice consists of a single measure rest.
func isMeasureRest(v api.Voice) bool {
	return len(v.Events) == 1 && v.Events[0].Kind == api.MeasureRest
}

// fitVoice cuts a voice, or fills it with rests. The result may share the lists of the voice.
func fitVoice(v api.Voice, before, after voice.Place) (api.Voice, api.Errno) {
	change := cut
	if after.Length > before.Length {
		change = fill
	}
	fitted, e := change(v, before, after)
	if e != api.OK {
		return api.Voice{}, e
	}
	return fitted, voice.Check(fitted, after.Length)
}

func cut(v api.Voice, before, after voice.Place) (api.Voice, api.Errno) {
	return voice.Cut(v, before, 0, after.Length)
}

func fill(v api.Voice, before, after voice.Place) (api.Voice, api.Errno) {
	rests, e := voice.Rests(after.Metre, after.Offset+before.Length, after.Offset+after.Length)
	return api.Voice{Events: append(v.Events, rests...), Tuplets: v.Tuplets}, e
}
