package duration_test

import (
	"strings"
	"testing"

	"hemiola/api"
	"hemiola/duration"
)

// spelled are the texts and the English names of the note values without dots, from the Log -1 on.
var spelled = [][2]string{
	{"b", "double whole"}, {"1", "whole"}, {"2", "half"}, {"4", "quarter"}, {"8", "eighth"},
	{"16", "16th"}, {"32", "32nd"}, {"64", "64th"}, {"128", "128th"}, {"256", "256th"},
}

func TestP2_5TextAndName(t *testing.T) {
	for _, v := range valid() {
		text := spelled[v.Log+1][0] + []string{"", ".", "..", "..."}[v.Dots]
		name := []string{"", "dotted ", "double-dotted ", "triple-dotted "}[v.Dots] + spelled[v.Log+1][1]
		if s, e := duration.Text(v); s != text || e != api.OK {
			t.Errorf("Text(%v) = %q, error %d; want %q", v, s, e, text)
		}
		if s, e := duration.Name(v); s != name || e != api.OK {
			t.Errorf("Name(%v) = %q, error %d; want %q", v, s, e, name)
		}
		if w, e := duration.Parse(text); w != v || e != api.OK {
			t.Errorf("Parse(%q) = %v, error %d; want %v", text, w, e, v)
		}
	}
	for _, v := range invalid {
		if s, e := duration.Text(v); s != "" || e != api.ErrValue {
			t.Errorf("Text(%v) = %q, error %d", v, s, e)
		}
		if s, e := duration.Name(v); s != "" || e != api.ErrValue {
			t.Errorf("Name(%v) = %q, error %d", v, s, e)
		}
	}
}

func TestP2_5ParseErrors(t *testing.T) {
	for _, c := range []struct {
		s string
		e api.Errno
	}{
		{"", api.ErrShort},
		{"256....", api.ErrLong}, {"1234567", api.ErrLong}, {"4......", api.ErrLong}, {strings.Repeat("x", 4096), api.ErrLong},
		{"4....", api.ErrSyntax}, {"4.....", api.ErrSyntax}, {"b....", api.ErrSyntax},
		{".", api.ErrSyntax}, {"....", api.ErrSyntax}, {".4", api.ErrSyntax}, {"4.4", api.ErrSyntax}, {".4.", api.ErrSyntax},
		{"3", api.ErrSyntax}, {"0", api.ErrSyntax}, {"04", api.ErrSyntax}, {"+4", api.ErrSyntax}, {"-4", api.ErrSyntax}, {"-1", api.ErrSyntax}, {"512", api.ErrSyntax}, {"4 ", api.ErrSyntax}, {" 4", api.ErrSyntax}, {"4 .", api.ErrSyntax},
		{"B", api.ErrSyntax}, {"bb", api.ErrSyntax}, {"b1", api.ErrSyntax}, {"whole", api.ErrSyntax}, {"4\x00", api.ErrSyntax}, {"\xff", api.ErrSyntax},
	} {
		if v, e := duration.Parse(c.s); v != (api.Value{}) || e != c.e {
			t.Errorf("Parse(%q) = %v, error %d; want %d", c.s, v, e, c.e)
		}
	}
}

// TestP2_5AllTexts parses all short texts: those of note values, and no others, are read.
func TestP2_5AllTexts(t *testing.T) {
	known := map[string]bool{}
	for _, v := range duration.All() {
		s, _ := duration.Text(v)
		known[s] = true
	}
	var test func(s string)
	test = func(s string) {
		if v, e := duration.Parse(s); (e == api.OK) != known[s] || e != api.OK && e != api.ErrSyntax {
			t.Errorf("Parse(%q) = %v, error %d", s, v, e)
		}
		if len(s) < 5 {
			for _, b := range "b1246850." {
				test(s + string(b))
			}
		}
	}
	for _, b := range "b1246850." {
		test(string(b))
	}
}
