package lexer_test

import (
	"slices"
	"strings"
	"testing"

	"hemiola/api"
	"hemiola/lexer"
	"hemiola/sample"
)

func TestP18_2Symbols(t *testing.T) {
	want := strings.Fields(`( ) { } [ ] < > = : ; , . / | @ # ~ ! ? + - * & ^ _ ' $ \`)
	slices.Sort(want)
	if l := lexer.Symbols(); !slices.Equal(l, want) {
		t.Errorf("Symbols = %q; want %q", l, want)
	}
}

func TestP18_2IsWord(t *testing.T) {
	for s, want := range map[string]bool{
		"a": true, "Z": true, "a_1": true, "A__": true, strings.Repeat("z", 64): true,
		"": false, "_a": false, "1a": false, "a b": false, "a-b": false, "é": false, "aé": false, "a\n": false, " a": false, strings.Repeat("z", 65): false,
	} {
		if got := lexer.IsWord(s); got != want {
			t.Errorf("IsWord(%q) = %t", s, got)
		}
	}
	for seed := range 5000 {
		s := random(sample.New(seed))
		l, _, _, e := model(s)
		if want := e == api.OK && len(l) == 2 && l[0].Kind == lexer.Word && l[0].Text == s; lexer.IsWord(s) != want {
			t.Fatalf("IsWord(%q) = %t", s, !want)
		}
	}
}

func TestP18_2Quote(t *testing.T) {
	for s, want := range map[string]string{
		"": `""`, "la": `"la"`, "\n\t\\\"": `"\n\t\\\""`, "\x00\r\x1f\x7f": `"\x00\x0d\x1f\x7f"`, " ~%é\x80\xff": "\" ~%é\x80\xff\"",
		strings.Repeat("a", 4096): `"` + strings.Repeat("a", 4096) + `"`,
	} {
		if got, e := lexer.Quote(s); got != want || e != api.OK {
			t.Errorf("Quote(%q) = %q, error %d", s, got, e)
		}
	}
	for _, s := range []string{strings.Repeat("a", 4097), strings.Repeat("\n", 5000)} {
		if got, e := lexer.Quote(s); got != "" || e != api.ErrLong {
			t.Errorf("Quote(%.10q..) = %q, error %d", s, got, e)
		}
	}
}

func TestP18_7Quote(t *testing.T) {
	check := func(s string) {
		t.Helper()
		quoted, e := lexer.Quote(s)
		l, _, _, _ := lexer.Scan(quoted)
		if e != api.OK || len(l) != 2 || l[0].Kind != lexer.String || l[0].Bytes != s || l[0].Text != quoted {
			t.Fatalf("Quote(%q) = %q, error %d, with the tokens %+v", s, quoted, e, l)
		}
	}
	for b := range 256 {
		check(string([]byte{byte(b)}))
		check(strings.Repeat(string([]byte{byte(b)}), 4096))
	}
	for seed := range 3000 {
		check(random(sample.New(seed)))
	}
}

func TestP18_3Print(t *testing.T) {
	word := func(text string, joined bool) lexer.Token {
		return lexer.Token{Kind: lexer.Word, Text: text, Joined: joined}
	}
	for _, c := range []struct {
		l    []lexer.Token
		want string
	}{
		{nil, ""},
		{[]lexer.Token{{}}, ""},
		{[]lexer.Token{word("a", true)}, "a"},
		{[]lexer.Token{word("a", false), word("b", false), word("c", true), {Kind: lexer.String, Text: `"d"`, Bytes: "d"}, {Kind: lexer.Number, Text: "007", Value: 7, Joined: true}, {}}, `a bc "d"007`},
		{[]lexer.Token{{Text: "x"}, word("a", false), {Text: "y", Joined: true}, word("b", true), {}, word("c", false)}, "ab c"},
		{[]lexer.Token{word("", false), word("a", false), {Kind: 9, Text: "?"}, {Kind: -1, Text: "!", Joined: true}}, " a ?!"},
	} {
		if got := lexer.Print(c.l); got != c.want {
			t.Errorf("Print(%+v) = %q; want %q", c.l, got, c.want)
		}
	}
	l, _, _, _ := lexer.Scan("  c4.'x  8va % end\n(b) ")
	if got := lexer.Print(l); got != "c4.'x 8va (b)" {
		t.Errorf("Print = %q", got)
	}
}

func TestP18_3Same(t *testing.T) {
	l, _, _, _ := lexer.Scan(`a 1 "x"`)
	moved, _, _, _ := lexer.Scan("\na   1\n\"x\" ")
	if !lexer.Same(l, moved) || !lexer.Same(nil, []lexer.Token{}) {
		t.Error("lists that differ in lines and columns are not the same")
	}
	for i, change := range []func(x *lexer.Token){
		func(x *lexer.Token) { x.Kind++ }, func(x *lexer.Token) { x.Text += "y" }, func(x *lexer.Token) { x.Value++ }, func(x *lexer.Token) { x.Bytes += "y" }, func(x *lexer.Token) { x.Joined = !x.Joined },
	} {
		for k := range l {
			other := slices.Clone(l)
			change(&other[k])
			if lexer.Same(l, other) || lexer.Same(other, l) {
				t.Errorf("lists with the change %d of the token %d are the same", i, k)
			}
		}
	}
	if lexer.Same(l, l[:3]) || lexer.Same(l[:3], l) || lexer.Same(nil, l) || !lexer.Same(l, l) {
		t.Error("lists of different lengths are the same")
	}
}
