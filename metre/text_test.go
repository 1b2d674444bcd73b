package metre_test

import (
	"strconv"
	"strings"
	"testing"

	"hemiola/api"
	"hemiola/metre"
)

// textOf returns the text of a time signature as the chapter defines it.
func textOf(m api.Metre) string {
	s := strconv.Itoa(m.Count)
	if m.Groups[0] != 0 {
		s = ""
		for _, g := range groupsOf(m) {
			s += "+" + strconv.Itoa(g)
		}
		s = s[1:]
	}
	return s + "/" + strconv.Itoa(m.Unit)
}

func TestP4_6Text(t *testing.T) {
	for _, c := range []struct {
		m    api.Metre
		text string
	}{
		{of(7, 8, 2, 2, 3), "2+2+3/8"}, {of(4, 4), "4/4"}, {of(64, 64), "64/64"}, {of(1, 1), "1/1"}, {of(6, 8, 3, 3), "3+3/8"}, {of(6, 8), "6/8"},
		{of(6, 4, 1, 1, 1, 1, 1, 1), "1+1+1+1+1+1/4"}, {of(64, 64, 11, 11, 11, 11, 10, 10), "11+11+11+11+10+10/64"}, {of(11, 16, 10, 1), "10+1/16"},
	} {
		if s, e := metre.Text(c.m); s != c.text || e != api.OK {
			t.Errorf("Text(%v) = %q, error %d", c.m, s, e)
		}
		if m, e := metre.Parse(c.text); m != c.m || e != api.OK {
			t.Errorf("Parse(%q) = %v, error %d", c.text, m, e)
		}
	}
	for _, c := range invalid {
		if s, e := metre.Text(c.m); s != "" || e != c.e {
			t.Errorf("Text(%v) = %q, error %d", c.m, s, e)
		}
	}
}

func TestP4_6ParseErrors(t *testing.T) {
	for _, c := range []struct {
		s string
		e api.Errno
	}{
		{strings.Repeat("1", 33), api.ErrLong}, {"4/4" + strings.Repeat(" ", 30), api.ErrLong}, {strings.Repeat("x", 5000), api.ErrLong}, {strings.Repeat("1+", 16) + "4", api.ErrLong},
		{strings.Repeat("1", 32), api.ErrSyntax}, {"4/4" + strings.Repeat(" ", 29), api.ErrSyntax}, {strings.Repeat("+", 32), api.ErrSyntax}, {strings.Repeat("1+", 15) + "/4", api.ErrSyntax},
		{"", api.ErrSyntax}, {"/", api.ErrSyntax}, {"4", api.ErrSyntax}, {"4/", api.ErrSyntax}, {"/4", api.ErrSyntax}, {"4//4", api.ErrSyntax}, {"4/4/4", api.ErrSyntax}, {"+/4", api.ErrSyntax}, {"+4/4", api.ErrSyntax}, {"4+/4", api.ErrSyntax}, {"2++2/4", api.ErrSyntax}, {"2/4+2/4", api.ErrSyntax},
		{"0/4", api.ErrSyntax}, {"65/4", api.ErrSyntax}, {"-4/4", api.ErrSyntax}, {"4/3", api.ErrSyntax}, {"4/0", api.ErrSyntax}, {"4/128", api.ErrSyntax}, {"4/-4", api.ErrSyntax}, {"4/+4", api.ErrSyntax},
		{"04/4", api.ErrSyntax}, {"4/04", api.ErrSyntax}, {"2+02/4", api.ErrSyntax}, {"4 /4", api.ErrSyntax}, {" 4/4", api.ErrSyntax}, {"4/4 ", api.ErrSyntax}, {"2 + 2/4", api.ErrSyntax}, {"4/4\n", api.ErrSyntax}, {"0x4/4", api.ErrSyntax}, {"1_0/4", api.ErrSyntax}, {"4\x00/4", api.ErrSyntax}, {"\xff/4", api.ErrSyntax}, {"\uff14/4", api.ErrSyntax}, {"C", api.ErrSyntax},
		{"2+0/4", api.ErrSyntax}, {"0+2/4", api.ErrSyntax}, {"2+0+2/4", api.ErrSyntax}, {"2+2+0/4", api.ErrSyntax}, {"5+-1/4", api.ErrSyntax}, {"32+33/4", api.ErrSyntax}, {"1+1+1+1+1+1+1/4", api.ErrSyntax}, {"1+1+1+1+1+1+0/4", api.ErrSyntax},
		{"18446744073709551620/4", api.ErrSyntax}, {"4/18446744073709551620", api.ErrSyntax}, {"9223372036854775807+5/4", api.ErrSyntax}, {"4294967300/4", api.ErrSyntax},
	} {
		if m, e := metre.Parse(c.s); m != (api.Metre{}) || e != c.e {
			t.Errorf("Parse(%q) = %v, error %d; want %d", c.s, m, e, c.e)
		}
	}
}

// TestP4_6AllTexts parses all short texts: those of time signatures, and no others, are read.
func TestP4_6AllTexts(t *testing.T) {
	known := map[string]api.Metre{}
	for count := 1; count <= 64; count++ {
		for unit := 1; unit <= 64; unit *= 2 {
			known[textOf(of(count, unit))] = of(count, unit)
			for first := 1; first < count; first++ {
				m := of(count, unit, first, count-first)
				known[textOf(m)] = m
			}
		}
	}
	read := 0
	var test func(s string)
	test = func(s string) {
		m, e := metre.Parse(s)
		want, ok := known[s]
		if m != want || ok != (e == api.OK) || !ok && e != api.ErrSyntax {
			t.Errorf("Parse(%q) = %v, error %d", s, m, e)
		}
		if ok {
			read++
		}
		if len(s) < 5 {
			for _, b := range "0123468+-/" {
				test(s + string(b))
			}
		}
	}
	test("")
	if read < 100 {
		t.Errorf("only %d texts were read", read)
	}
}

func TestP4_7Texts(t *testing.T) {
	texts := map[string]bool{}
	for _, m := range signatures() {
		s, e := metre.Text(m)
		if s != textOf(m) || e != api.OK {
			t.Errorf("Text(%v) = %q, error %d", m, s, e)
		}
		if back, e := metre.Parse(s); back != m || e != api.OK {
			t.Errorf("Parse(%q) = %v, error %d; want %v", s, back, e, m)
		}
		texts[s] = true
	}
	if len(texts) < 64*7 {
		t.Errorf("only %d different texts", len(texts))
	}
}
