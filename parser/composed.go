package parser

import (
	"strings"

	"hemiola/api"
	"hemiola/duration"
	"hemiola/lexer"
	"hemiola/metre"
	"hemiola/pitch"
)

// composed reads a composed token: the next token, and all joined ones behind it that may continue it. What their texts mean, put together, a lower layer knows; if it does not accept them, the error is at the first one.
func composed[T any](p *parser, begins, continues func(lexer.Token) bool, parse func(string) (T, api.Errno), wrong api.Errno) T {
	var none T
	first := p.Peek()
	if !begins(first) {
		p.Fail(api.ErrSyntax)
		return none
	}
	var text strings.Builder
	text.WriteString(p.Next().Text)
	for next := p.Peek(); next.Joined && continues(next); next = p.Peek() {
		text.WriteString(p.Next().Text)
	}
	x, e := parse(text.String())
	if e != api.OK {
		// An error is always at the next token, so the stream is replaced by one in which that is the first one.
		p.Stream = lexer.Of([]lexer.Token{first})
		p.Fail(wrong)
		return none
	}
	return x
}

func (p *parser) pitch() api.Pitch {
	parse := func(s string) (api.Pitch, api.Errno) {
		x, _, e := pitch.Parse(s)
		return x, e
	}
	return composed(p, beginsPitch, numberOr("#-"), parse, api.ErrPitch)
}

func (p *parser) value() api.Value {
	return composed(p, beginsValue, symbolOf("."), duration.Parse, api.ErrValue)
}

func (p *parser) metre() api.Metre {
	return composed(p, isNumber, numberOr("+/"), metre.Parse, api.ErrMetre)
}

// atPitch reports whether a pitch follows.
func (p *parser) atPitch() bool { return beginsPitch(p.Peek()) }

func beginsPitch(t lexer.Token) bool {
	return t.Kind == lexer.Word && 'A' <= t.Text[0] && t.Text[0] <= 'G'
}

func beginsValue(t lexer.Token) bool {
	return isNumber(t) || t.Kind == lexer.Word && t.Text == "b"
}

func isNumber(t lexer.Token) bool { return t.Kind == lexer.Number }

// symbolOf returns a function that reports whether a token is one of some symbols, and numberOr one that accepts numbers, too.
func symbolOf(symbols string) func(lexer.Token) bool {
	return func(t lexer.Token) bool { return t.Kind == lexer.Symbol && strings.Contains(symbols, t.Text) }
}

func numberOr(symbols string) func(lexer.Token) bool {
	isSymbol := symbolOf(symbols)
	return func(t lexer.Token) bool { return isNumber(t) || isSymbol(t) }
}
