package lexer

import (
	"slices"

	"hemiola/api"
)

// Stream takes tokens one after another; the first error is kept.
type Stream struct {
	left         []Token // those that have not been taken
	end          Token   // what follows them
	line, column int     // of the error
	e            api.Errno
}

// Open returns a Stream of the tokens of a text, and Of one of tokens.
func Open(s string) *Stream {
	l, line, column, e := Scan(s)
	if e != api.OK {
		return &Stream{line: line, column: column, e: e}
	}
	last := len(l) - 1
	return &Stream{left: l[:last], end: l[last]}
}

func Of(l []Token) *Stream {
	end := slices.IndexFunc(l, func(t Token) bool { return t.Kind == End })
	if end < 0 {
		return &Stream{left: slices.Clone(l)}
	}
	return &Stream{left: slices.Clone(l[:end]), end: l[end]}
}

// hasFailed reports whether no more tokens can be taken.
func (t *Stream) hasFailed() bool { return t == nil || t.e != api.OK }

// Peek returns the next token, and Is reports whether it is a symbol or a word with a text.
func (t *Stream) Peek() Token {
	switch {
	case t.hasFailed():
		return Token{}
	case len(t.left) == 0:
		return t.end
	}
	return t.left[0]
}

func (t *Stream) Is(text string) bool {
	next := t.Peek()
	return next.Text == text && (next.Kind == Word || next.Kind == Symbol)
}

// Next takes the next token; Accept takes it if Is holds; Expect takes it, or fails with ErrSyntax.
func (t *Stream) Next() Token {
	next := t.Peek()
	if !t.hasFailed() && len(t.left) > 0 {
		t.left = t.left[1:]
	}
	return next
}

func (t *Stream) Accept(text string) bool {
	is := t.Is(text)
	if is {
		t.Next()
	}
	return is
}

func (t *Stream) Expect(text string) {
	if !t.Accept(text) {
		t.Fail(api.ErrSyntax)
	}
}

// Word, Number and String take a token of their kind, or fail with ErrSyntax; a number outside of the limits is ErrRange.
func (t *Stream) Word() string { return t.take(Word).Text }

func (t *Stream) Number(low, high int) int {
	if next := t.Peek(); next.Kind == Number && (next.Value < low || next.Value > high) {
		t.Fail(api.ErrRange)
	}
	return t.take(Number).Value
}

func (t *Stream) String() string { return t.take(String).Bytes }

// take takes a token of a kind; without one, it returns the zero Token.
func (t *Stream) take(kind int) Token {
	if t.Peek().Kind != kind {
		t.Fail(api.ErrSyntax)
		return Token{}
	}
	return t.Next()
}

// Fail keeps an error at the next token, and Failed returns the first error and where it is.
func (t *Stream) Fail(e api.Errno) {
	if e == api.OK || t.hasFailed() {
		return
	}
	next := t.Peek()
	t.line, t.column, t.e = next.Line, next.Column, e
}

func (t *Stream) Failed() (line, column int, e api.Errno) {
	if t == nil {
		return 0, 0, api.ErrArgument
	}
	return t.line, t.column, t.e
}
