package lexer

import (
	"strconv"
	"strings"

	"hemiola/api"
)

// digits are the digits of the byte that an escape denotes.
const digits = "0123456789abcdef"

// The classes of bytes.
func isLetter(b byte) bool  { return 'A' <= b && b <= 'Z' || 'a' <= b && b <= 'z' }
func isDigit(b byte) bool   { return '0' <= b && b <= '9' }
func inWord(b byte) bool    { return isLetter(b) || isDigit(b) || b == '_' }
func isControl(b byte) bool { return b < 32 || b == 127 }

// run returns the longest beginning of a text whose bytes are all of a class.
func run(s string, class func(byte) bool) string {
	n := 0
	for n < len(s) && class(s[n]) {
		n++
	}
	return s[:n]
}

// scanner reads a text token by token, up to the first error.
type scanner struct {
	source string
	at     int // the offset of the next byte
	line   int
	begin  int // the offset of the beginning of the line
	wrong  int // the offset of the error; it is in the same line
	e      api.Errno
}

// Scan returns the tokens of a text, the last of which is End; on error it returns where the error is. End is never joined: the blanks before it get lost when tokens are printed.
func Scan(s string) (l []Token, line, column int, e api.Errno) {
	if len(s) > MaxSource {
		return nil, 1, 1, api.ErrLong
	}
	r := scanner{source: s, line: 1}
	kinds := []func(*scanner) Token{(*scanner).word, (*scanner).number, (*scanner).quoted, (*scanner).symbol}
	for {
		joined := !r.skip() && len(l) > 0
		if r.at == len(s) {
			return append(l, Token{Line: r.line, Column: r.column(r.at)}), 0, 0, api.OK
		}
		if len(l) == MaxTokens {
			r.fail(r.at, api.ErrLimit)
		}
		t := r.token(kinds)
		if r.e != api.OK {
			return nil, r.line, r.column(r.wrong), r.e
		}
		t.Line, t.Column, t.Joined = r.line, r.column(r.at), joined
		r.at += len(t.Text)
		l = append(l, t)
	}
}

// column returns the column of an offset in the line.
func (r *scanner) column(offset int) int { return offset - r.begin + 1 }

// fail keeps the first error.
func (r *scanner) fail(offset int, e api.Errno) {
	if r.e == api.OK {
		r.wrong, r.e = offset, e
	}
}

// skip skips blanks and comments, and reports whether there were any.
func (r *scanner) skip() bool {
	from := r.at
blanks:
	for r.at < len(r.source) {
		switch r.source[r.at] {
		case ' ', '\t', '\r':
			r.at++
		case '\n':
			r.at++
			r.line, r.begin = r.line+1, r.at
		case '%':
			comment, _, _ := strings.Cut(r.source[r.at:], "\n")
			r.at += len(comment)
		default:
			break blanks
		}
	}
	return r.at > from
}

// token returns the token that begins at the next byte, without its place. The kinds are tried in order; each returns the zero Token if the next byte begins none of the kind.
func (r *scanner) token(kinds []func(*scanner) Token) Token {
	for _, kind := range kinds {
		if t := kind(r); t.Kind != End || r.e != api.OK {
			return t
		}
	}
	r.fail(r.at, api.ErrByte)
	return Token{}
}

func (r *scanner) word() Token {
	if !isLetter(r.source[r.at]) {
		return Token{}
	}
	text := run(r.source[r.at:], inWord)
	if len(text) > MaxWord {
		r.fail(r.at, api.ErrLong)
	}
	return Token{Kind: Word, Text: text}
}

func (r *scanner) number() Token {
	text := run(r.source[r.at:], isDigit)
	if text == "" {
		return Token{}
	}
	if len(text) > MaxDigits {
		r.fail(r.at, api.ErrLong)
	}
	value, _ := strconv.Atoi(text)
	return Token{Kind: Number, Text: text, Value: value}
}

func (r *scanner) symbol() Token {
	text := r.source[r.at : r.at+1]
	if !strings.Contains(symbols, text) {
		return Token{}
	}
	return Token{Kind: Symbol, Text: text}
}

// quoted returns a string.
func (r *scanner) quoted() Token {
	if r.source[r.at] != '"' {
		return Token{}
	}
	var denoted []byte
	for at := r.at + 1; at < len(r.source); {
		switch b := r.source[at]; {
		case b == '"':
			if len(denoted) > MaxString {
				r.fail(r.at, api.ErrLong)
			}
			return Token{Kind: String, Text: r.source[r.at : at+1], Bytes: string(denoted)}
		case b == '\\':
			b, behind := r.escape(at + 1)
			if r.e != api.OK {
				return Token{}
			}
			denoted, at = append(denoted, b), behind
		case isControl(b):
			r.fail(at, api.ErrByte)
			return Token{}
		default:
			denoted, at = append(denoted, b), at+1
		}
	}
	r.fail(r.at, api.ErrShort)
	return Token{}
}

// escape returns the byte that an escape denotes, of which a part begins behind the backslash, and the offset behind it.
func (r *scanner) escape(at int) (b byte, behind int) {
	switch rest := r.source[at:]; {
	case rest == "":
		r.fail(r.at, api.ErrShort)
	case rest[0] == 'n':
		return '\n', at + 1
	case rest[0] == 't':
		return '\t', at + 1
	case rest[0] == '"' || rest[0] == '\\':
		return rest[0], at + 1
	case rest[0] == 'x':
		return 16*r.digit(at+1) + r.digit(at+2), at + 3
	default:
		r.fail(at, api.ErrByte)
	}
	return 0, at
}

// digit returns the value of a digit of an escape.
func (r *scanner) digit(at int) byte {
	if at >= len(r.source) {
		r.fail(r.at, api.ErrShort)
		return 0
	}
	value := strings.IndexByte(digits, r.source[at])
	if value < 0 {
		r.fail(at, api.ErrByte)
		return 0
	}
	return byte(value)
}
