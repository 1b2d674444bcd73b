package sample

import (
	"cmp"
	"slices"

	"hemiola/api"
	"hemiola/duration"
	"hemiola/measure"
	"hemiola/pitch"
	"hemiola/voice"
)

// fillMeasure fills a measure that has a time signature.
func fillMeasure(r *Source, m *api.Measure, staves int) {
	place, _ := measure.Place(*m)
	if r.Chance(10) {
		m.Length = eighth * (1 + r.Below(place.Length/eighth-1))
		place, _ = measure.Place(*m)
	}
	m.Swing, m.Break, m.Rehearsal = sometimes(r, 10, 50+r.Below(26)), sometimes(r, 20, 1+r.Below(3)), Pick(r, "", "", "", "A", "B 2")
	for at := 0; at < place.Length && r.Chance(20); at += eighth * (1 + r.Below(4)) {
		m.Tempi = append(m.Tempi, api.TempoMark{At: at, Micros: 100000 * (2 + r.Below(10)), Ramp: r.Chance(30)})
	}
	for range staves {
		var c api.Cell
		for at := r.Below(2) * eighth; at < place.Length && r.Chance(15); at += eighth * (1 + r.Below(4)) {
			c.Clefs = append(c.Clefs, api.ClefChange{At: at, Clef: 1 + r.Below(4)})
		}
		for range 1 + sometimes(r, 40, 1) {
			c.Voices = append(c.Voices, makeVoice(r, place))
		}
		m.Cells = append(m.Cells, c)
	}
}

// sometimes returns n in so many of a hundred cases, and otherwise 0.
func sometimes(r *Source, percent, n int) int {
	if r.Chance(percent) {
		return n
	}
	return 0
}

// makeVoice returns a voice that fills a measure.
func makeVoice(r *Source, p voice.Place) api.Voice {
	if r.Chance(15) {
		return api.Voice{Events: []api.Event{{Kind: api.MeasureRest}}}
	}
	var v api.Voice
	for at := 0; at < p.Length; {
		length := min(eighth*(1+r.Below(6)), p.Length-at)
		if value, e := duration.Find(length / 2); e == api.OK && value.Dots == 0 && r.Chance(20) {
			v.Tuplets = append(v.Tuplets, api.Tuplet{First: len(v.Events), Count: 3, Actual: 3, Normal: 2})
			for range 3 {
				x := makeEvent(r)
				x.Value = value
				v.Events = append(v.Events, x)
			}
		} else {
			notes, _ := voice.Notes(makeEvent(r), p.Metre, p.Offset+at, p.Offset+at+length)
			v.Events = append(v.Events, notes...)
		}
		at += length
	}
	return v
}

// makeEvent returns an event whose value is a whole note.
func makeEvent(r *Source) api.Event {
	x := api.Event{Kind: Pick(r, api.Chord, api.Chord, api.Chord, api.Chord, api.Rest, api.Rest, api.Skip), Dynamic: sometimes(r, 10, 1+r.Below(9))}
	if x.Kind != api.Skip {
		x.Articulations = sometimes(r, 5, api.Fermata)
	}
	if x.Kind != api.Chord {
		return x
	}
	for range 1 + r.Below(2)*r.Below(4) {
		x.Heads = append(x.Heads, api.Head{Pitch: makePitch(r), Show: sometimes(r, 10, 1+r.Below(2))})
	}
	x.Heads = inOrder(x.Heads)
	for range sometimes(r, 10, 1+r.Below(3)) {
		x.Graces = append(x.Graces, api.Grace{Pitch: makePitch(r), Log: 2 + r.Below(3), Slash: r.Chance(50)})
	}
	x.Articulations |= sometimes(r, 20, r.Below(16))
	x.Ornament, x.Stem, x.Beam = sometimes(r, 10, 1+r.Below(4)), sometimes(r, 15, 1+r.Below(2)), sometimes(r, 15, 1+r.Below(2))
	return x
}

// makePitch returns one of a few pitches, so that the same ones often follow one another.
func makePitch(r *Source) api.Pitch {
	return api.Pitch{Step: Pick(r, 0, 2, 3, 6), Alter: Pick(r, 0, 0, 0, 1, -1), Octave: 4 + r.Below(2)}
}

// inOrder returns heads in the order of their numbers, one for each number.
func inOrder(l []api.Head) []api.Head {
	number := func(h api.Head) int {
		n, _ := pitch.Number(h.Pitch)
		return n
	}
	slices.SortFunc(l, func(a, b api.Head) int { return cmp.Compare(number(a), number(b)) })
	return slices.CompactFunc(l, func(a, b api.Head) bool { return number(a) == number(b) })
}
