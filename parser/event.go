package parser

import (
	"math/bits"

	"hemiola/api"
	"hemiola/lexer"
)

// maxGraceLog is that of the shortest grace notes.
const maxGraceLog = 6

// voice reads the events of a voice. Tuplets can contain one another in great numbers, so those whose parentheses are open are kept in a list.
func (p *parser) voice() api.Voice {
	var v api.Voice
	var open []int
	for {
		switch {
		case p.Accept("("):
			open = append(open, len(v.Tuplets))
			v.Tuplets = append(v.Tuplets, p.tuplet(len(v.Events)))
		case p.atEvent():
			v.Events = append(v.Events, p.event())
		case len(open) > 0:
			innermost := &v.Tuplets[open[len(open)-1]]
			open = open[:len(open)-1]
			innermost.Count = len(v.Events) - innermost.First
			if innermost.Count == 0 {
				p.Fail(api.ErrSyntax)
			}
			p.Expect(")")
		default:
			return v
		}
	}
}

// tuplet reads the numbers of a tuplet, which does not contain events yet.
func (p *parser) tuplet(first int) api.Tuplet {
	actual := p.Number(1, maxRatio)
	p.Expect(":")
	return api.Tuplet{First: first, Actual: actual, Normal: p.Number(1, maxRatio)}
}

// atEvent reports whether an event follows.
func (p *parser) atEvent() bool {
	return p.atID() || p.Is("grace") || p.Is("<") || p.Is("r") || p.Is("R") || p.Is("s") || p.atPitch()
}

func (p *parser) event() api.Event {
	x := api.Event{ID: p.object()}
	if p.Accept("grace") {
		p.Expect("(")
		x.Graces = several(p.grace, func() bool { return p.Is("/") || p.atPitch() })
		p.Expect(")")
	}
	p.body(&x)
	if p.Accept("[") {
		p.signs(&x)
		p.Expect("]")
	}
	for p.atSyllable() {
		x.Lyrics = append(x.Lyrics, p.syllable())
	}
	return x
}

// grace reads a grace note, whose value is written as a power of 2.
func (p *parser) grace() api.Grace {
	x := api.Grace{Slash: p.Accept("/"), Pitch: p.pitch()}
	p.Expect(":")
	if next := p.Peek(); isNumber(next) && next.Value&(next.Value-1) != 0 {
		p.Fail(api.ErrRange)
	}
	x.Log = bits.Len(uint(p.Number(2, 1<<maxGraceLog))) - 1
	return x
}

// body reads what an event consists of.
func (p *parser) body(x *api.Event) {
	switch {
	case p.Accept("R"):
		x.Kind = api.MeasureRest
		return
	case p.Accept("r"):
		x.Kind = api.Rest
	case p.Accept("s"):
		x.Kind = api.Skip
	case p.Accept("<"):
		x.Kind = api.Chord
		x.Heads = several(p.head, p.atPitch)
		p.Expect(">")
	default:
		x.Kind = api.Chord
		x.Heads = []api.Head{p.head()}
	}
	p.Expect(":")
	x.Value = p.value()
}

func (p *parser) head() api.Head {
	x := api.Head{Pitch: p.pitch(), Tied: p.Accept("~")}
	switch {
	case p.Accept("!"):
		x.Show = api.ShowAlways
	case p.Accept("?"):
		x.Show = api.ShowParentheses
	}
	return x
}

// signs reads the words in brackets, whose numbers must increase; of some groups, only one word may stand there.
func (p *parser) signs(x *api.Event) {
	least := 1
	for first := true; first || p.Peek().Kind == lexer.Word; first = false {
		if n := p.words.signs[p.Peek().Text]; n > 0 && n < least {
			p.Fail(api.ErrSyntax)
		}
		n := p.wordOf(p.words.signs)
		least = setSign(x, n)
	}
}

// setSign sets what the word with a number says, and returns the least number that may follow it.
func setSign(x *api.Event, n int) int {
	switch {
	case n < firstOrnament:
		x.Articulations |= 1 << n >> 1
		return n + 1
	case n < firstDynamic:
		x.Ornament = n - firstOrnament + 1
		return firstDynamic
	case n < firstStem:
		x.Dynamic = n - firstDynamic + 1
		return firstStem
	case n < firstBeam:
		x.Stem = n - firstStem + 1
		return firstBeam
	}
	x.Beam = n - firstBeam + 1
	return behindBeam
}

// atSyllable reports whether a syllable follows.
func (p *parser) atSyllable() bool { return p.Peek().Kind == lexer.String || p.Is("_") }

// syllable reads a syllable; an extender without a text continues the last one.
func (p *parser) syllable() api.Syllable {
	if p.Accept("_") {
		return api.Syllable{Link: api.Extender}
	}
	x := api.Syllable{Text: p.String()}
	joined := p.Peek().Joined
	switch {
	case joined && p.Accept("-"):
		x.Link = api.Hyphen
	case joined && p.Accept("_"):
		x.Link = api.Extender
	}
	return x
}
