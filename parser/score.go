package parser

import (
	"hemiola/api"
	"hemiola/clef"
	"hemiola/lexer"
)

// The limits of numbers that package api does not name.
const (
	maxTranspose = 140
	maxFifths    = 7
	leastTimes   = 2
	mostTimes    = 8
	maxEndings   = 255
	maxSwing     = 100
	maxMicros    = 60000000
	maxRatio     = 32 // of the numbers of a tuplet
)

// score reads the whole text.
func (p *parser) score() api.Score {
	p.numbered = true
	p.Expect("score")
	x := api.Score{Title: p.String(), Written: p.Accept("written")}
	if p.Accept("last") {
		x.Last = several(p.id, p.atID)
	}
	for p.Accept("part") {
		x.Parts = append(x.Parts, p.part())
	}
	before := api.Measure{Metre: api.Metre{Count: 4, Unit: 4}}
	for p.Accept("measure") {
		before = p.measure(before)
		x.Measures = append(x.Measures, before)
	}
	for p.words.spanners[p.Peek().Text] != 0 {
		x.Spanners = append(x.Spanners, p.spanner())
	}
	p.end()
	if x.Last == nil {
		x.Last = p.given()
	}
	return x
}

// atID reports whether an id follows, and id reads it.
func (p *parser) atID() bool { return p.Is("@") }

func (p *parser) id() api.ID {
	p.Expect("@")
	site := p.Number(0, api.MaxSite)
	p.Expect(".")
	return api.ID{Site: site, Number: p.Number(1, api.MaxNumber)}
}

// object returns the id of an object: the one that is written, or that after the object before.
func (p *parser) object() api.ID {
	id := api.ID{Site: p.last.Site, Number: p.last.Number + 1}
	switch {
	case p.atID():
		id = p.id()
	case !p.numbered:
		return api.ID{}
	case id.Number > api.MaxNumber:
		p.Fail(api.ErrLimit)
	}
	p.last = id
	p.greatest[id.Site] = max(p.greatest[id.Site], id.Number)
	return id
}

// given returns the greatest ids of the objects.
func (p *parser) given() []api.ID {
	var l []api.ID
	for site, number := range p.greatest {
		if number > 0 {
			l = append(l, api.ID{Site: site, Number: number})
		}
	}
	return l
}

// part reads what follows the word part, and the others what follows the words of their names.
func (p *parser) part() api.Part {
	x := api.Part{ID: p.object(), Name: p.String()}
	if p.Accept("transpose") {
		x.Transpose = api.Interval{Steps: p.signed(maxTranspose), Semitones: p.signed(maxTranspose)}
	}
	for p.Accept("staff") {
		x.Staves = append(x.Staves, api.Staff{ID: p.object(), Clef: p.clef()})
	}
	return x
}

// signed reads a number that may be negative, of at most a size.
func (p *parser) signed(size int) int {
	if p.Accept("-") {
		return -p.Number(0, size)
	}
	return p.Number(0, size)
}

// name reads a word, and returns its number; words without a number, which is not zero, are unknown.
func (p *parser) name(number func(word string) int) int {
	next := p.Peek()
	n := number(next.Text)
	if next.Kind == lexer.Word && n == 0 {
		p.Fail(api.ErrUnknown)
	}
	p.Word()
	return n
}

// wordOf reads one of the words in a map.
func (p *parser) wordOf(numbers map[string]int) int {
	return p.name(func(word string) int { return numbers[word] })
}

// clef reads the name of a clef.
func (p *parser) clef() int {
	return p.name(func(word string) int {
		n, _ := clef.Find(word)
		return n
	})
}

// measure reads a measure; what it does not say is as in the measure before.
func (p *parser) measure(before api.Measure) api.Measure {
	m := api.Measure{ID: p.object(), Metre: before.Metre, Fifths: before.Fifths}
	p.options(&m)
	p.Expect("{")
	m.Cells = separated(p, "/", p.cell)
	p.Expect("}")
	return m
}

// options reads the options of a measure, each of which stands at its place or not at all.
func (p *parser) options(m *api.Measure) {
	for _, option := range []struct {
		word string
		read func()
	}{
		{"metre", func() { m.Metre = p.metre() }},
		{"length", func() { m.Length = p.Number(1, api.MaxTime) }},
		{"key", func() { m.Fifths = p.signed(maxFifths) }},
		{"repeat", func() { m.RepeatStart = true }},
		{"times", func() { m.RepeatEnd = p.Number(leastTimes, mostTimes) }},
		{"endings", func() { m.Endings = p.Number(1, maxEndings) }},
		{"jump", func() { m.Jump = p.wordOf(p.words.jumps) }},
		{"segno", func() { m.Labels |= api.Segno }},
		{"coda", func() { m.Labels |= api.Coda }},
		{"fine", func() { m.Labels |= api.Fine }},
		{"tocoda", func() { m.Labels |= api.ToCoda }},
		{"swing", func() { m.Swing = p.Number(1, maxSwing) }},
		{"break", func() { m.Break = p.wordOf(p.words.breaks) }},
		{"mark", func() { m.Rehearsal = p.String() }},
		{"tempo", func() { m.Tempi = separated(p, "tempo", p.tempo) }},
	} {
		if p.Accept(option.word) {
			option.read()
		}
	}
}

func (p *parser) tempo() api.TempoMark {
	return api.TempoMark{At: p.Number(0, api.MaxTime), Micros: p.Number(1, maxMicros), Ramp: p.Accept("ramp")}
}

// cell reads a staff of a measure; nothing at all stands for no voice, not for an empty one.
func (p *parser) cell() api.Cell {
	var c api.Cell
	for p.Accept("clef") {
		c.Clefs = append(c.Clefs, api.ClefChange{At: p.Number(0, api.MaxTime), Clef: p.clef()})
	}
	c.Voices = separated(p, ";", p.voice)
	if len(c.Voices) == 1 && len(c.Voices[0].Events) == 0 {
		c.Voices = nil
	}
	return c
}

// spanner reads a spanner, of which the first word is known.
func (p *parser) spanner() api.Spanner {
	x := api.Spanner{Kind: p.wordOf(p.words.spanners), ID: p.object()}
	p.Expect("(")
	x.From, x.To = p.id(), p.id()
	p.Expect(")")
	return x
}
