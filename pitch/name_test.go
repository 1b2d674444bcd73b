package pitch_test

import (
	"strconv"
	"strings"
	"testing"

	"hemiola/api"
	"hemiola/pitch"
)

// nameOf returns the name of a pitch whose fields are in their ranges.
func nameOf(p api.Pitch) string {
	return abc[p.Step:p.Step+1] + strings.Repeat("b", max(-p.Alter, 0)) + strings.Repeat("#", max(p.Alter, 0)) + strconv.Itoa(p.Octave)
}

func TestP5_5Name(t *testing.T) {
	for _, p := range all() {
		if s, e := pitch.Name(p); s != nameOf(p) || e != api.OK {
			t.Errorf("Name(%v) = %q, error %d", p, s, e)
		}
	}
	for _, p := range missing {
		if s, e := pitch.Name(p); s != "" || e != api.ErrPitch {
			t.Errorf("Name(%v) = %q, error %d", p, s, e)
		}
	}
	for s, p := range map[string]api.Pitch{"C4": of(0, 0, 4), "Bb3": of(6, -1, 3), "F##0": of(3, 2, 0), "Dbb-1": of(1, -2, -1), "G9": of(4, 0, 9), "A#-1": of(5, 1, -1)} {
		if name, e := pitch.Name(p); name != s || e != api.OK {
			t.Errorf("Name(%v) = %q, error %d; want %q", p, name, e, s)
		}
		if q, at, e := pitch.Parse(s); q != p || at != 0 || e != api.OK {
			t.Errorf("Parse(%q) = %v, %d, error %d", s, q, at, e)
		}
	}
}

func TestP5_5ParseErrors(t *testing.T) {
	for _, c := range []struct {
		s  string
		at int
		e  api.Errno
	}{
		{"", 0, api.ErrShort},
		{"H4", 0, api.ErrByte}, {"c4", 0, api.ErrByte}, {"b4", 0, api.ErrByte}, {"#4", 0, api.ErrByte}, {"4", 0, api.ErrByte}, {" C4", 0, api.ErrByte}, {"@4", 0, api.ErrByte}, {"\x00", 0, api.ErrByte}, {"\xff4", 0, api.ErrByte}, {"H", 0, api.ErrByte}, {"s", 0, api.ErrByte}, {"\u00c74", 0, api.ErrByte},
		{"C", 1, api.ErrFormat}, {"C#", 1, api.ErrFormat}, {"Cb", 1, api.ErrFormat}, {"Cbb", 1, api.ErrFormat}, {"C##", 1, api.ErrFormat}, {"C-", 1, api.ErrFormat},
		{"Cbbb4", 1, api.ErrFormat}, {"C###4", 1, api.ErrFormat}, {"Cb#4", 1, api.ErrFormat}, {"C#b4", 1, api.ErrFormat}, {"C4#", 1, api.ErrFormat}, {"C4b", 1, api.ErrFormat}, {"C#4#", 1, api.ErrFormat}, {"CC4", 1, api.ErrFormat}, {"CB4", 1, api.ErrFormat}, {"Cx4", 1, api.ErrFormat}, {"C\u266f4", 1, api.ErrFormat},
		{"C-2", 1, api.ErrFormat}, {"C10", 1, api.ErrFormat}, {"C04", 1, api.ErrFormat}, {"C+4", 1, api.ErrFormat}, {"C-0", 1, api.ErrFormat}, {"C-01", 1, api.ErrFormat}, {"C--1", 1, api.ErrFormat}, {"C44", 1, api.ErrFormat}, {"C 4", 1, api.ErrFormat}, {"C4 ", 1, api.ErrFormat}, {"C4\n", 1, api.ErrFormat}, {"C4\x00", 1, api.ErrFormat}, {"C\xff", 1, api.ErrFormat}, {"C:", 1, api.ErrFormat}, {"C/", 1, api.ErrFormat}, {"C18446744073709551620", 1, api.ErrFormat}, {"C" + strings.Repeat("b", 1000) + "4", 1, api.ErrFormat},
		{"B9", 0, api.ErrPitch}, {"Cb-1", 0, api.ErrPitch}, {"Cbb-1", 0, api.ErrPitch}, {"G#9", 0, api.ErrPitch}, {"A9", 0, api.ErrPitch}, {"Ab9", 0, api.ErrPitch}, {"F###9", 1, api.ErrFormat},
	} {
		if p, at, e := pitch.Parse(c.s); p != (api.Pitch{}) || at != c.at || e != c.e {
			t.Errorf("Parse(%q) = %v, %d, error %d; want %d, error %d", c.s, p, at, e, c.at, c.e)
		}
	}
}

// TestP5_5AllNames parses all short texts: those of pitches, and no others, are read.
func TestP5_5AllNames(t *testing.T) {
	known := map[string]api.Pitch{}
	for _, p := range all() {
		known[nameOf(p)] = p
	}
	read := 0
	var test func(s string)
	test = func(s string) {
		p, at, e := pitch.Parse(s)
		want, ok := known[s]
		if p != want || ok != (e == api.OK) || ok && at != 0 {
			t.Errorf("Parse(%q) = %v, %d, error %d", s, p, at, e)
		}
		if ok {
			read++
		}
		if len(s) < 5 {
			for _, b := range "ABCDEFGb#-0189" {
				test(s + string(b))
			}
		}
	}
	test("")
	if read < 100 {
		t.Errorf("only %d names were read", read)
	}
}

func TestP5_6Back(t *testing.T) {
	for _, p := range all() {
		diatonic, _ := pitch.Diatonic(p)
		if q, e := pitch.Of(diatonic, p.Alter); q != p || e != api.OK {
			t.Errorf("Of leads from %v to %v, error %d", p, q, e)
		}
		s, _ := pitch.Name(p)
		if q, at, e := pitch.Parse(s); q != p || at != 0 || e != api.OK {
			t.Errorf("Parse leads from %v to %v, %d, error %d", p, q, at, e)
		}
	}
}
