package lexer_test

import (
	"math"
	"testing"

	"hemiola/api"
	"hemiola/lexer"
	"hemiola/sample"
)

// failed compares the error of a stream.
func failed(t *testing.T, s *lexer.Stream, wantLine, wantColumn int, want api.Errno) {
	t.Helper()
	if line, column, e := s.Failed(); line != wantLine || column != wantColumn || e != want {
		t.Errorf("Failed = %d, %d, error %d; want %d, %d, error %d", line, column, e, wantLine, wantColumn, want)
	}
}

func TestP18_4Open(t *testing.T) {
	for _, source := range []string{"", "a", " a 1.\n\"x\" % end\n"} {
		l, _, _, _ := lexer.Scan(source)
		s := lexer.Open(source)
		for _, want := range l {
			if got := s.Next(); got != want {
				t.Errorf("Next = %+v; want %+v", got, want)
			}
		}
		end := l[len(l)-1]
		if s.Peek() != end || s.Next() != end || s.Next() != end {
			t.Error("End is taken")
		}
		failed(t, s, 0, 0, api.OK)
	}
	s := lexer.Open("a\n `")
	if s.Peek() != (lexer.Token{}) || s.Is("a") {
		t.Error("a stream of a text with an error has tokens")
	}
	failed(t, s, 2, 2, api.ErrByte)
}

func TestP18_4Of(t *testing.T) {
	word := func(text string) lexer.Token { return lexer.Token{Kind: lexer.Word, Text: text, Line: 7, Column: 8} }
	end := lexer.Token{Text: "end", Value: 5, Line: 9, Column: 1}
	for _, c := range []struct{ l, want []lexer.Token }{
		{nil, []lexer.Token{{}, {}}},
		{[]lexer.Token{word("a")}, []lexer.Token{word("a"), {}, {}}},
		{[]lexer.Token{word("a"), word("b"), end, word("c"), {}}, []lexer.Token{word("a"), word("b"), end, end}},
		{[]lexer.Token{end, word("c")}, []lexer.Token{end, end}},
		{[]lexer.Token{{Kind: 9}, {Kind: -1}, end}, []lexer.Token{{Kind: 9}, {Kind: -1}, end}},
	} {
		s := lexer.Of(c.l)
		clear(c.l) // it is not retained
		for _, want := range c.want {
			if got := s.Next(); got != want {
				t.Errorf("Next = %+v; want %+v", got, want)
			}
		}
	}
	s := lexer.Of([]lexer.Token{end})
	s.Fail(api.ErrUnknown)
	failed(t, s, 9, 1, api.ErrUnknown)
}

func TestP18_5Taking(t *testing.T) {
	s := lexer.Open(`a ( "a" 12 b c )`)
	if !s.Is("a") || s.Is("(") || s.Is("") || s.Accept("(") || !s.Accept("a") || s.Accept("a") {
		t.Error("the word a is not taken once")
	}
	s.Expect("(")
	if s.Is("a") || s.Is(`"a"`) || s.Peek().Bytes != "a" || s.String() != "a" {
		t.Error("the string is not taken")
	}
	if s.Is("12") || s.Accept("12") || s.Number(12, 12) != 12 || s.Word() != "b" {
		t.Error("the number is not taken")
	}
	if next := s.Next(); next.Text != "c" || !s.Accept(")") || s.Is("") || s.Peek().Kind != lexer.End {
		t.Error("the last tokens are not taken")
	}
	failed(t, s, 0, 0, api.OK)
}

func TestP18_5Failing(t *testing.T) {
	for i, c := range []struct {
		source string
		call   func(s *lexer.Stream) any
		zero   any
		column int
		e      api.Errno
	}{
		{"x a", func(s *lexer.Stream) any { s.Expect("b"); return 0 }, 0, 3, api.ErrSyntax},
		{`x "a"`, func(s *lexer.Stream) any { s.Expect(`"a"`); return 0 }, 0, 3, api.ErrSyntax},
		{"x ", func(s *lexer.Stream) any { s.Expect(""); return 0 }, 0, 3, api.ErrSyntax},
		{"x 1", func(s *lexer.Stream) any { return s.Word() }, "", 3, api.ErrSyntax},
		{`x "a"`, func(s *lexer.Stream) any { return s.Word() }, "", 3, api.ErrSyntax},
		{"x.", func(s *lexer.Stream) any { return s.Word() }, "", 2, api.ErrSyntax},
		{"x a", func(s *lexer.Stream) any { return s.Number(0, 9) }, 0, 3, api.ErrSyntax},
		{"x", func(s *lexer.Stream) any { return s.Number(0, 9) }, 0, 2, api.ErrSyntax},
		{"x 4", func(s *lexer.Stream) any { return s.Number(5, 9) }, 0, 3, api.ErrRange},
		{"x 4", func(s *lexer.Stream) any { return s.Number(-9, 3) }, 0, 3, api.ErrRange},
		{"x 4", func(s *lexer.Stream) any { return s.Number(5, 3) }, 0, 3, api.ErrRange},
		{"x 4", func(s *lexer.Stream) any { return s.Number(math.MaxInt, math.MinInt) }, 0, 3, api.ErrRange},
		{"x y", func(s *lexer.Stream) any { return s.String() }, "", 3, api.ErrSyntax},
		{"x 4", func(s *lexer.Stream) any { return s.String() }, "", 3, api.ErrSyntax},
	} {
		s := lexer.Open(c.source)
		s.Next()
		if got := c.call(s); got != c.zero {
			t.Errorf("%d: the result is %v", i, got)
		}
		failed(t, s, 1, c.column, c.e)
	}
	if s := lexer.Open("4"); s.Number(4, 4) != 4 {
		t.Error("a number at both limits is not taken")
	}
}

// looks calls everything on a stream that has failed, or is nil.
func looks(t *testing.T, s *lexer.Stream) {
	t.Helper()
	s.Fail(api.ErrShort)
	s.Expect("a")
	if s.Peek() != (lexer.Token{}) || s.Next() != (lexer.Token{}) || s.Is("a") || s.Is("") || s.Accept("a") || s.Word() != "" || s.String() != "" || s.Number(0, 9) != 0 || s.Number(9, 0) != 0 {
		t.Error("a stream that has failed still returns something")
	}
}

func TestP18_6Failed(t *testing.T) {
	s := lexer.Open("x\n  a b")
	s.Fail(api.OK)
	failed(t, s, 0, 0, api.OK)
	s.Expect("x")
	s.Fail(api.ErrUnknown)
	failed(t, s, 2, 3, api.ErrUnknown)
	looks(t, s)
	failed(t, s, 2, 3, api.ErrUnknown)
	s = lexer.Open("a")
	s.Next()
	s.Fail(api.Errno(-77))
	looks(t, s)
	failed(t, s, 1, 2, api.Errno(-77))
	looks(t, nil)
	failed(t, nil, 0, 0, api.ErrArgument)
	zero := &lexer.Stream{}
	if zero.Next() != (lexer.Token{}) || zero.Is("") {
		t.Error("a zero stream has tokens")
	}
	failed(t, zero, 0, 0, api.OK)
}

// stream is what a Stream should be.
type stream struct {
	l            []lexer.Token
	at           int
	line, column int
	e            api.Errno
}

func (m *stream) next() lexer.Token {
	if m.e != api.OK {
		return lexer.Token{}
	}
	return m.l[m.at]
}

func (m *stream) take() { m.at = min(m.at+1, len(m.l)-1) }

func (m *stream) fail(e api.Errno) {
	if m.e == api.OK && e != api.OK {
		m.line, m.column, m.e = m.next().Line, m.next().Column, e
	}
}

// taken takes the next token if it is right, and otherwise fails.
func (m *stream) taken(right bool, e api.Errno) (t lexer.Token) {
	if t = m.next(); !right {
		m.fail(e)
		return lexer.Token{}
	}
	m.take()
	return t
}

func (m *stream) is(text string) bool {
	next := m.next()
	return (next.Kind == lexer.Word || next.Kind == lexer.Symbol) && next.Text == text
}

// TestP18_5Random calls everything in any order, on streams and on the reference.
func TestP18_5Random(t *testing.T) {
	errors := map[api.Errno]int{}
	for seed := range 20000 {
		r := sample.New(seed)
		source := ""
		for range r.Below(8) {
			source += sample.Pick(r, "a", " b", " 5", "(", ` "a"`, "\n")
		}
		l, _, _, _ := lexer.Scan(source)
		s, m := lexer.Open(source), &stream{l: l}
		if r.Chance(50) {
			s = lexer.Of(l)
		}
		for range r.Below(12) {
			step(t, r, s, m)
		}
		failed(t, s, m.line, m.column, m.e)
		errors[m.e]++
	}
	for _, e := range []api.Errno{api.OK, api.ErrSyntax, api.ErrRange, api.ErrTie} {
		if errors[e] < 100 {
			t.Errorf("the error %d occurs only %d times", e, errors[e])
		}
	}
}

// step calls one method, mostly one that fits the next token.
func step(t *testing.T, r *sample.Source, s *lexer.Stream, m *stream) {
	t.Helper()
	next := m.next()
	word := sample.Pick(r, next.Text, next.Text, next.Text, "a", "(", "", `"a"`, "5")
	var got, want any
	choice := r.Below(9)
	if kinds := []int{0, 3, 4, 5, 2}; r.Chance(60) {
		choice = kinds[next.Kind]
	}
	switch choice {
	case 0:
		got, want = s.Peek(), next
	case 1:
		got, want = s.Is(word), m.is(word)
	case 2:
		got, want = s.Accept(word), m.is(word)
		if m.is(word) {
			m.take()
		}
	case 3:
		got, want = s.Word(), m.taken(next.Kind == lexer.Word, api.ErrSyntax).Text
	case 4:
		low, high := r.Below(7), 4+r.Below(5)
		e := api.ErrSyntax
		if next.Kind == lexer.Number {
			e = api.ErrRange
		}
		got, want = s.Number(low, high), m.taken(next.Kind == lexer.Number && low <= next.Value && next.Value <= high, e).Value
	case 5:
		got, want = s.String(), m.taken(next.Kind == lexer.String, api.ErrSyntax).Bytes
	case 6:
		s.Expect(word)
		m.taken(m.is(word), api.ErrSyntax)
	case 7:
		got, want = s.Next(), next
		m.take()
	case 8:
		e := sample.Pick(r, api.OK, api.OK, api.ErrTie)
		s.Fail(e)
		m.fail(e)
	}
	if got != want {
		t.Fatalf("the step %d returns %v; want %v", choice, got, want)
	}
}
