package lexer_test

import (
	"fmt"
	"regexp"
	"strconv"
	"strings"
	"testing"

	"hemiola/api"
	"hemiola/lexer"
	"hemiola/sample"
)

// text returns a text that is equal for equal values; nil lists are equal to empty ones.
func text(x any) string { return fmt.Sprintf("%+v", x) }

// The reference reads texts whose runes stand for the bytes, so that expressions can name bytes.
const pieces = `(?:[ !#-\[\]-~\x{80}-\x{ff}]|\\[nt"\\]|\\x[0-9a-f]{2})*`

var (
	blanks  = regexp.MustCompile(`^(?:[ \t\n\r]|%[^\n]*)+`)
	tokens  = regexp.MustCompile(`^(?:([A-Za-z][A-Za-z0-9_]*)|([0-9]+)|("` + pieces + `")|([-(){}\[\]<>=:;,./|@#~!?+*&^_'$\\]))`)
	opening = regexp.MustCompile(`^"` + pieces)
	cutOff  = regexp.MustCompile(`^(?:\\(?:x[0-9a-f]?)?)?$`)
	escapes = regexp.MustCompile(`\\(?:x..|.)`)
)

// widened returns a text with a rune for each byte, and narrowed is the opposite.
func widened(s string) string {
	var out strings.Builder
	for i := range len(s) {
		out.WriteRune(rune(s[i]))
	}
	return out.String()
}

func narrowed(s string) string {
	var out []byte
	for _, r := range s {
		out = append(out, byte(r))
	}
	return string(out)
}

// model is what Scan should return.
func model(s string) (l []lexer.Token, line, column int, e api.Errno) {
	if len(s) > 1<<20 {
		return nil, 1, 1, api.ErrLong
	}
	rest, read := widened(s), ""
	take := func(part string) { read, rest = read+part, rest[len(part):] }
	fail := func(ahead string, e api.Errno) ([]lexer.Token, int, int, api.Errno) {
		line, column := placeBehind(read + ahead)
		return nil, line, column, e
	}
	for {
		skipped := blanks.FindString(rest)
		take(skipped)
		t := lexer.Token{Joined: skipped == "" && len(l) > 0}
		t.Line, t.Column = placeBehind(read)
		if rest == "" {
			t.Joined = false
			return append(l, t), 0, 0, api.OK
		}
		m := tokens.FindStringSubmatch(rest)
		switch {
		case len(l) == 1<<18:
			return fail("", api.ErrLimit)
		case m == nil && rest[0] == '"':
			return fail(wrongPiece(rest))
		case m == nil:
			return fail("", api.ErrByte)
		case len(m[1]) > 64 || len(m[2]) > 15 || m[3] != "" && len(denoted(m[3])) > 4096:
			return fail("", api.ErrLong)
		}
		for kind := 1; kind <= 4; kind++ {
			if m[kind] != "" {
				t.Kind = kind
			}
		}
		t.Text = narrowed(m[0])
		t.Value, _ = strconv.Atoi(m[2])
		if m[3] != "" {
			t.Bytes = denoted(m[3])
		}
		l = append(l, t)
		take(m[0])
	}
}

// placeBehind returns the place behind a widened text.
func placeBehind(s string) (line, column int) {
	lines := strings.Split(s, "\n")
	return len(lines), len([]rune(lines[len(lines)-1])) + 1
}

// wrongPiece returns how far ahead the error of a string that begins a text is, and the error.
func wrongPiece(s string) (string, api.Errno) {
	good := opening.FindString(s)
	bad := s[len(good):]
	switch {
	case cutOff.MatchString(bad):
		return "", api.ErrShort
	case strings.HasPrefix(bad, `\x`):
		hexadecimal := regexp.MustCompile(`^\\x[0-9a-f]?`).FindString(bad)
		return good + hexadecimal, api.ErrByte
	case strings.HasPrefix(bad, `\`):
		return good + `\`, api.ErrByte
	}
	return good, api.ErrByte
}

// denoted returns what a string denotes.
func denoted(quoted string) string {
	return narrowed(escapes.ReplaceAllStringFunc(quoted[1:len(quoted)-1], func(s string) string {
		switch s[1] {
		case 'n':
			return "\n"
		case 't':
			return "\t"
		case 'x':
			n, _ := strconv.ParseUint(s[2:], 16, 8)
			return string(rune(n))
		}
		return s[1:]
	}))
}

// agree compares what Scan returns with what it should.
func agree(t *testing.T, s string) ([]lexer.Token, api.Errno) {
	t.Helper()
	l, line, column, e := lexer.Scan(s)
	want, wantLine, wantColumn, wantError := model(s)
	if text(l) != text(want) || line != wantLine || column != wantColumn || e != wantError {
		t.Fatalf("Scan(%q) = %+v, %d, %d, error %d; want %+v, %d, %d, error %d", s, l, line, column, e, want, wantLine, wantColumn, wantError)
	}
	return l, e
}

// random returns a text, of which most parts are tokens.
func random(r *sample.Source) string {
	var out strings.Builder
	for range r.Below(12) {
		out.WriteString(sample.Pick(r, "a", "Bc_1", "x", "n", "8", "007", "_", ".", "#", "-", `\`, "$", "{", "é", "la",
			" ", " ", "\n", "\t", "\r\n", "%", "% c\n", `% "`,
			`""`, `"a b"`, `"é%"`, `"\n\t\\\""`, `"\x00\xff"`, `"`, `"\`, `\x4`, `\"`, "\\", "\x00", "\x7f", "`", "\x80"))
	}
	return out.String()
}
