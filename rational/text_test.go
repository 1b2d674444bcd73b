package rational_test

import (
	"regexp"
	"strings"
	"testing"

	"hemiola/api"
	"hemiola/rational"
)

func TestP1_6Text(t *testing.T) {
	for _, c := range []struct {
		num, den int
		text     string
	}{
		{0, 7, "0"}, {3, 1, "3"}, {-3, 1, "-3"}, {6, -4, "-3/2"}, {1, rational.Max, "1/1073741824"}, {-rational.Max, 1, "-1073741824"}, {rational.Max, rational.Max - 1, "1073741824/1073741823"},
	} {
		x := of(t, c.num, c.den)
		if x.Text() != c.text {
			t.Errorf("the text of %d/%d is %q", c.num, c.den, x.Text())
		}
		if y, at, e := rational.Parse(c.text); y != x || at != 0 || e != api.OK {
			t.Errorf("Parse(%q) = %s, %d, error %d", c.text, y.Text(), at, e)
		}
	}
	for _, x := range fractions(t) {
		if y, at, e := rational.Parse(x.Text()); y != x || at != 0 || e != api.OK {
			t.Errorf("Parse(%q) = %s, %d, error %d", x.Text(), y.Text(), at, e)
		}
	}
}

func TestP1_6ParseErrors(t *testing.T) {
	for _, c := range []struct {
		s  string
		at int
		e  api.Errno
	}{
		{"", 0, api.ErrShort}, {"-", 1, api.ErrShort}, {"1/", 2, api.ErrShort}, {"-12/", 4, api.ErrShort},
		{"x", 0, api.ErrByte}, {"+1", 0, api.ErrByte}, {" 1", 0, api.ErrByte}, {"1 ", 1, api.ErrByte}, {"--1", 1, api.ErrByte}, {"-x", 1, api.ErrByte}, {"/2", 0, api.ErrByte}, {"-/2", 1, api.ErrByte},
		{"1-2", 1, api.ErrByte}, {"1.5", 1, api.ErrByte}, {"1/-2", 2, api.ErrByte}, {"1//2", 2, api.ErrByte}, {"1/2/3", 3, api.ErrByte}, {"1/2x", 3, api.ErrByte}, {"1\x00", 1, api.ErrByte}, {"\u0663", 0, api.ErrByte},
		{"12345678901", 0, api.ErrLong}, {"-12345678901", 1, api.ErrLong}, {"1/12345678901", 2, api.ErrLong}, {"00000000001", 0, api.ErrLong}, {strings.Repeat("9", 5000), 0, api.ErrLong},
		{"12345678901x", 0, api.ErrLong}, {"12345678901/", 0, api.ErrLong}, {"1/12345678901/", 2, api.ErrLong}, {"1x12345678901", 1, api.ErrByte},
		{"2/4", 0, api.ErrFormat}, {"07", 0, api.ErrFormat}, {"1/02", 0, api.ErrFormat}, {"-0", 0, api.ErrFormat}, {"0/1", 0, api.ErrFormat}, {"0/0", 0, api.ErrFormat}, {"1/0", 0, api.ErrFormat}, {"3/1", 0, api.ErrFormat}, {"-2/2", 0, api.ErrFormat},
		{"1073741825", 0, api.ErrFormat}, {"-9999999999", 0, api.ErrFormat}, {"1/1073741825", 0, api.ErrFormat}, {"9999999999/9999999999", 0, api.ErrFormat},
	} {
		if x, at, e := rational.Parse(c.s); x != (rational.R{}) || at != c.at || e != c.e {
			t.Errorf("Parse(%q) = %s, %d, error %d; want %d, error %d", c.s, x.Text(), at, e, c.at, c.e)
		}
	}
}

// TestP1_6AllTexts compares Parse with a description of the texts, for all short ones.
func TestP1_6AllTexts(t *testing.T) {
	text := regexp.MustCompile(`^(0|-?[1-9]\d*(/[1-9]\d*)?)$`)
	proper := regexp.MustCompile(`^-?\d+(/\d+)?$`)
	beginning := regexp.MustCompile(`^(-?\d*|-?\d+/\d*)$`)
	var test func(s string)
	test = func(s string) {
		x, at, e := rational.Parse(s)
		short := 0
		for short < len(s) && beginning.MatchString(s[:short+1]) {
			short++
		}
		switch {
		case e == api.OK:
			if x.Text() != s || at != 0 || !text.MatchString(s) {
				t.Errorf("Parse(%q) = %s, %d", s, x.Text(), at)
			}
		case proper.MatchString(s):
			if at != 0 || e != api.ErrFormat {
				t.Errorf("Parse(%q) = %d, error %d; want ErrFormat", s, at, e)
			}
		case short == len(s):
			if at != len(s) || e != api.ErrShort {
				t.Errorf("Parse(%q) = %d, error %d; want ErrShort", s, at, e)
			}
		case at != short || e != api.ErrByte:
			t.Errorf("Parse(%q) = %d, error %d; want %d, ErrByte", s, at, e, short)
		}
		if e != api.OK && x != (rational.R{}) {
			t.Errorf("Parse(%q) returns a fraction with an error", s)
		}
		if len(s) < 5 {
			for _, b := range "-/0123x" {
				test(s + string(b))
			}
		}
	}
	test("")
}
