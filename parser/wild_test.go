package parser_test

import (
	"hemiola/api"
	"hemiola/metre"
	"hemiola/pitch"
	"hemiola/sample"
)

// maker makes scores that can be written, but need not be valid.
type maker struct {
	*sample.Source
	last api.ID
}

func wild(r *sample.Source) api.Score {
	g := &maker{Source: r}
	s := api.Score{Title: g.name(), Written: r.Chance(50)}
	for range r.Below(3) {
		p := api.Part{ID: g.id(), Name: g.name()}
		if r.Chance(50) {
			p.Transpose = api.Interval{Steps: g.between(-140, 140), Semitones: g.between(-140, 140)}
		}
		for range r.Below(3) {
			p.Staves = append(p.Staves, api.Staff{ID: g.id(), Clef: g.between(1, 9)})
		}
		s.Parts = append(s.Parts, p)
	}
	for range r.Below(4) {
		s.Measures = append(s.Measures, g.measure())
	}
	for range r.Below(3) {
		s.Spanners = append(s.Spanners, api.Spanner{ID: g.id(), Kind: g.between(1, 7), From: g.anyID(), To: g.anyID()})
	}
	s.Last = greatest(s)
	if r.Chance(30) {
		s.Last = []api.ID{g.anyID(), g.anyID()}[:1+r.Below(2)]
	}
	return s
}

// between returns a number of a range, often one at its ends.
func (g *maker) between(low, high int) int {
	return sample.Pick(g.Source, low, high, low+g.Below(high-low+1))
}

// sometimes returns a number of a range, or 0.
func (g *maker) sometimes(low, high int) int {
	if g.Chance(70) {
		return 0
	}
	return g.between(low, high)
}

func (g *maker) name() string {
	return sample.Pick(g.Source, "", "A", "Flöte", "\x00\n\"\\\x7f\xff", "_")
}

// id returns the id of the next object, and anyID that of any one.
func (g *maker) id() api.ID {
	g.last.Number++
	if g.Chance(20) {
		g.last = g.anyID()
	}
	return g.last
}

func (g *maker) anyID() api.ID {
	return api.ID{Site: sample.Pick(g.Source, 0, 0, 1, 99), Number: 1 + g.Below(1<<sample.Pick(g.Source, 2, 5, 29))}
}

func (g *maker) pitch() api.Pitch {
	p, e := pitch.Of(g.between(-7, 67), g.between(-2, 2))
	if e != api.OK {
		return api.Pitch{Octave: 4}
	}
	return p
}

func (g *maker) measure() api.Measure {
	m := api.Measure{
		ID: g.id(), Length: g.sometimes(1, api.MaxTime), Fifths: g.sometimes(-7, 7), RepeatStart: g.Chance(20), RepeatEnd: g.sometimes(2, 8), Endings: g.sometimes(1, 255),
		Jump: g.sometimes(1, 6), Labels: g.sometimes(1, 15), Swing: g.sometimes(1, 100), Break: g.sometimes(1, 3), Rehearsal: g.name(),
	}
	m.Metre, _ = metre.Parse(sample.Pick(g.Source, "4/4", "4/4", "3/4", "2+2+3/8", "64/64"))
	for range g.Below(3) {
		m.Tempi = append(m.Tempi, api.TempoMark{At: g.sometimes(0, api.MaxTime), Micros: g.between(1, 60000000), Ramp: g.Chance(50)})
	}
	for range 1 + g.Below(3) {
		m.Cells = append(m.Cells, g.cell())
	}
	return m
}

func (g *maker) cell() api.Cell {
	var c api.Cell
	for range g.Below(3) {
		c.Clefs = append(c.Clefs, api.ClefChange{At: g.sometimes(0, api.MaxTime), Clef: g.between(1, 9)})
	}
	for range g.Below(4) {
		c.Voices = append(c.Voices, g.voice(0))
	}
	if len(c.Voices) == 1 && len(c.Voices[0].Events) == 0 {
		c.Voices = nil
	}
	return c
}

// voice returns a voice with a least number of events.
func (g *maker) voice(least int) api.Voice {
	var v api.Voice
	g.fill(&v, least+g.Below(3), 3)
	return v
}

// fill adds so many events or tuplets, which contain at most so many levels of others.
func (g *maker) fill(v *api.Voice, count, levels int) {
	for range count {
		if levels == 0 || g.Chance(70) {
			v.Events = append(v.Events, g.event())
			continue
		}
		at := len(v.Tuplets)
		v.Tuplets = append(v.Tuplets, api.Tuplet{First: len(v.Events), Actual: g.between(1, 32), Normal: g.between(1, 32)})
		g.fill(v, 1+g.Below(2), levels-1)
		v.Tuplets[at].Count = len(v.Events) - v.Tuplets[at].First
	}
}

func (g *maker) event() api.Event {
	x := api.Event{
		ID: g.id(), Kind: g.between(api.Chord, api.Skip), Value: api.Value{Log: g.between(-1, 8), Dots: g.between(0, 3)},
		Articulations: g.sometimes(1, 31), Ornament: g.sometimes(1, 4), Dynamic: g.sometimes(1, 9), Stem: g.sometimes(1, 2), Beam: g.sometimes(1, 2),
	}
	for range g.sometimes(1, 3) {
		x.Graces = append(x.Graces, api.Grace{Pitch: g.pitch(), Log: g.between(1, 6), Slash: g.Chance(50)})
	}
	for range g.sometimes(1, 3) {
		x.Lyrics = append(x.Lyrics, api.Syllable{Text: g.name(), Link: g.between(0, 2)})
	}
	if x.Kind == api.MeasureRest {
		x.Value = api.Value{}
	}
	if x.Kind == api.Chord {
		for range 1 + g.sometimes(1, 3) {
			x.Heads = append(x.Heads, api.Head{Pitch: g.pitch(), Tied: g.Chance(30), Show: g.sometimes(1, 2)})
		}
	}
	return x
}
