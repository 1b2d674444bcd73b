package lexer_test

import (
	"slices"
	"strings"
	"testing"

	"hemiola/api"
	"hemiola/lexer"
	"hemiola/sample"
)

func TestP18_1Examples(t *testing.T) {
	l, line, column, e := lexer.Scan("c4.'x  8va % end")
	want := []lexer.Token{
		{Kind: lexer.Word, Text: "c4", Line: 1, Column: 1},
		{Kind: lexer.Symbol, Text: ".", Line: 1, Column: 3, Joined: true},
		{Kind: lexer.Symbol, Text: "'", Line: 1, Column: 4, Joined: true},
		{Kind: lexer.Word, Text: "x", Line: 1, Column: 5, Joined: true},
		{Kind: lexer.Number, Text: "8", Value: 8, Line: 1, Column: 8},
		{Kind: lexer.Word, Text: "va", Line: 1, Column: 9, Joined: true},
		{Line: 1, Column: 17},
	}
	if !slices.Equal(l, want) || line != 0 || column != 0 || e != api.OK {
		t.Errorf("Scan = %+v, %d, %d, error %d", l, line, column, e)
	}
	l, _, _, e = lexer.Scan(`"a\x41"`)
	want = []lexer.Token{{Kind: lexer.String, Text: `"a\x41"`, Bytes: "aA", Line: 1, Column: 1}, {Line: 1, Column: 8}}
	if !slices.Equal(l, want) || e != api.OK {
		t.Errorf("Scan = %+v, error %d", l, e)
	}
	for number, want := range map[int]int{lexer.MaxSource: 1048576, lexer.MaxTokens: 262144, lexer.MaxWord: 64, lexer.MaxString: 4096, lexer.MaxDigits: 15, lexer.End: 0, lexer.Word: 1, lexer.Number: 2, lexer.String: 3, lexer.Symbol: 4} {
		if number != want {
			t.Errorf("a constant is %d; want %d", number, want)
		}
	}
}

func TestP18_1Places(t *testing.T) {
	l, _, _, e := lexer.Scan("a%x\r\n\r\tb \"é\" c\n\n %")
	want := []lexer.Token{
		{Kind: lexer.Word, Text: "a", Line: 1, Column: 1},
		{Kind: lexer.Word, Text: "b", Line: 2, Column: 3},
		{Kind: lexer.String, Text: `"é"`, Bytes: "é", Line: 2, Column: 5},
		{Kind: lexer.Word, Text: "c", Line: 2, Column: 10},
		{Line: 4, Column: 3},
	}
	if !slices.Equal(l, want) || e != api.OK {
		t.Errorf("Scan = %+v, error %d", l, e)
	}
	for s, want := range map[string]lexer.Token{"": {Line: 1, Column: 1}, "\n": {Line: 2, Column: 1}, "%": {Line: 1, Column: 2}, " \r": {Line: 1, Column: 3}} {
		if l, _, _, e := lexer.Scan(s); len(l) != 1 || l[0] != want || e != api.OK {
			t.Errorf("Scan(%q) = %+v, error %d", s, l, e)
		}
	}
}

func TestP18_1Errors(t *testing.T) {
	long := strings.Repeat
	for _, c := range []struct {
		s            string
		line, column int
		e            api.Errno
	}{
		{"a \n b `", 2, 4, api.ErrByte}, {"\x00", 1, 1, api.ErrByte}, {"a\x7f", 1, 2, api.ErrByte}, {"é", 1, 1, api.ErrByte}, {"\v", 1, 1, api.ErrByte},
		{long("a", 64), 0, 0, api.OK}, {"1\n " + long("a", 65), 2, 2, api.ErrLong}, {long("a_1", 22), 1, 1, api.ErrLong},
		{long("9", 15), 0, 0, api.OK}, {" " + long("0", 16), 1, 2, api.ErrLong},
		{`"`, 1, 1, api.ErrShort}, {`x"a`, 1, 2, api.ErrShort}, {`"\`, 1, 1, api.ErrShort}, {`"\x`, 1, 1, api.ErrShort}, {`"\x4`, 1, 1, api.ErrShort}, {`"\"`, 1, 1, api.ErrShort}, {`"\\\"`, 1, 1, api.ErrShort},
		{`"\q"`, 1, 3, api.ErrByte}, {`"\X41"`, 1, 3, api.ErrByte}, {`"\xg1"`, 1, 4, api.ErrByte}, {`"\x4A"`, 1, 5, api.ErrByte}, {`"\x4"`, 1, 5, api.ErrByte}, {`"\x"`, 1, 4, api.ErrByte}, {"\"\\\n\"", 1, 3, api.ErrByte},
		{"\"a\n\"", 1, 3, api.ErrByte}, {"\"\t\"", 1, 2, api.ErrByte}, {"\"\x7f\"", 1, 2, api.ErrByte}, {"\"\x1f", 1, 2, api.ErrByte}, {"\"\r", 1, 2, api.ErrByte},
		{`"` + long("a", 4096) + `"`, 0, 0, api.OK}, {`"` + long("a", 4097) + `"`, 1, 1, api.ErrLong},
		{`"` + long(`\xff`, 4096) + `"`, 0, 0, api.OK}, {`x "` + long(`\"`, 4097) + `"`, 1, 3, api.ErrLong},
		{`"` + long("a", 4097), 1, 1, api.ErrShort}, {`"` + long("a", 4097) + "\n\"", 1, 4099, api.ErrByte},
		{"` " + long("a", 65), 1, 1, api.ErrByte}, {long("a", 65) + " `", 1, 1, api.ErrLong},
	} {
		if _, line, column, e := lexer.Scan(c.s); line != c.line || column != c.column || e != c.e {
			t.Errorf("Scan(%q) returns the error %d at %d, %d; want %d at %d, %d", c.s, e, line, column, c.e, c.line, c.column)
		}
		agree(t, c.s)
	}
}

func TestP18_1Limits(t *testing.T) {
	const tokens = lexer.MaxTokens
	for _, c := range []struct {
		s            string
		line, column int
		e            api.Errno
	}{
		{strings.Repeat(".", tokens), 0, 0, api.OK},
		{strings.Repeat(".", tokens) + " % end", 0, 0, api.OK},
		{strings.Repeat(".", tokens) + "\n 1", 2, 2, api.ErrLimit},
		{strings.Repeat(".", tokens+1), 1, tokens + 1, api.ErrLimit},
		{strings.Repeat("a\n", tokens) + "`", tokens + 1, 1, api.ErrLimit},
		{strings.Repeat(".", tokens) + `"`, 1, tokens + 1, api.ErrLimit},
		{strings.Repeat(".", tokens) + `"\q"`, 1, tokens + 1, api.ErrLimit},
		{strings.Repeat(".", tokens) + strings.Repeat("1", 16), 1, tokens + 1, api.ErrLimit},
		{"` " + strings.Repeat(".", tokens+1), 1, 1, api.ErrByte},
		{strings.Repeat(" ", lexer.MaxSource), 0, 0, api.OK},
		{strings.Repeat(" ", lexer.MaxSource-1) + "`", 1, lexer.MaxSource, api.ErrByte},
		{strings.Repeat(" ", lexer.MaxSource+1), 1, 1, api.ErrLong},
		{"\n`" + strings.Repeat(".", lexer.MaxSource), 1, 1, api.ErrLong},
	} {
		l, line, column, e := lexer.Scan(c.s)
		if line != c.line || column != c.column || e != c.e || e != api.OK && len(l) != 0 {
			t.Errorf("Scan(%.10q..) returns %d tokens, the error %d at %d, %d; want %d at %d, %d", c.s, len(l), e, line, column, c.e, c.line, c.column)
		}
	}
	if l, _, _, _ := lexer.Scan(strings.Repeat(".", tokens)); len(l) != tokens+1 || l[tokens] != (lexer.Token{Line: 1, Column: tokens + 1}) {
		t.Errorf("Scan returns %d tokens", len(l))
	}
}

// TestP18_1All compares Scan with the reference for all short texts of bytes between which it makes a difference, and for all pairs of bytes.
func TestP18_1All(t *testing.T) {
	alphabet := []string{"a", "x", "n", "0", "_", ".", `"`, `\`, "%", " ", "\n", "\x01", "\xe9", "`"}
	var grow func(s string, n int)
	grow = func(s string, n int) {
		agree(t, s)
		if n == 0 {
			return
		}
		for _, b := range alphabet {
			grow(s+b, n-1)
		}
	}
	grow("", 4)
	for a := range 256 {
		digit := string([]byte{byte(a)})
		agree(t, `"\x`+digit+`0"`)
		agree(t, `"\x0`+digit+`"`)
		agree(t, `"\`+digit+`"`)
		for b := range 256 {
			pair := string([]byte{byte(a), byte(b)})
			agree(t, pair)
			if a < 128 || b < 128 {
				agree(t, `"`+pair+`"`)
			}
		}
	}
}

func TestP18_1Random(t *testing.T) {
	counts := map[api.Errno]int{}
	for seed := range 30000 {
		_, e := agree(t, random(sample.New(seed)))
		counts[e]++
	}
	for _, e := range []api.Errno{api.OK, api.ErrByte, api.ErrShort} {
		if counts[e] < 1500 {
			t.Errorf("the error %d occurs only %d times", e, counts[e])
		}
	}
}

func TestP18_7Printed(t *testing.T) {
	scanned := 0
	for seed := range 30000 {
		s := random(sample.New(seed))
		l, _, _, e := lexer.Scan(s)
		if e != api.OK {
			continue
		}
		scanned++
		again, _, _, e := lexer.Scan(lexer.Print(l))
		if !lexer.Same(l, again) || e != api.OK {
			t.Fatalf("%q is printed as %q", s, lexer.Print(l))
		}
	}
	if scanned < 3000 {
		t.Error("only", scanned, "texts were scanned")
	}
}

// TestP18_7Blanks changes the blanks of texts.
func TestP18_7Blanks(t *testing.T) {
	for seed := range 10000 {
		r := sample.New(seed)
		l, _, _, e := lexer.Scan(random(r))
		if e != api.OK {
			continue
		}
		var s strings.Builder
		for i, x := range l {
			if !x.Joined && (i > 0 || r.Chance(50)) {
				s.WriteString(sample.Pick(r, " ", "\n", "\t\t", "%\n", "\r % \"\n"))
			}
			s.WriteString(x.Text)
		}
		again, _, _, e := lexer.Scan(s.String())
		if !lexer.Same(l, again) || e != api.OK {
			t.Fatalf("%q has the tokens %+v; want %+v", s.String(), again, l)
		}
	}
}

func TestP18_7Places(t *testing.T) {
	for seed := range 10000 {
		s := random(sample.New(seed))
		l, _, _, e := lexer.Scan(s)
		line, column := 1, 0
		for _, x := range l {
			if x.Line < line || x.Line == line && x.Column <= column {
				t.Fatalf("%q: the token %+v is not behind %d, %d", s, x, line, column)
			}
			line, column = x.Line, x.Column
			if there := strings.Split(s, "\n")[line-1][column-1:]; !strings.HasPrefix(there, x.Text) {
				t.Fatalf("%q: the token %+v is not at its place", s, x)
			}
		}
		if e == api.OK && l[len(l)-1].Kind != lexer.End {
			t.Fatalf("%q: the last token is %+v", s, l[len(l)-1])
		}
	}
}

func TestP18_7Fresh(t *testing.T) {
	const s = `a "b" 3 .`
	l, _, _, _ := lexer.Scan(s)
	before := text(l)
	clear(l)
	clear(lexer.Symbols())
	if l, _, _, _ = lexer.Scan(s); text(l) != before || lexer.Symbols()[0] != "!" {
		t.Errorf("Scan returns %+v after a result was changed", l)
	}
}
