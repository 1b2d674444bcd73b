package key_test

import (
	"testing"

	"hemiola/api"
	"hemiola/key"
)

// mode is a signature and a mode.
type mode struct {
	fifths int
	minor  bool
}

// named returns the keys of all names.
func named() map[string]mode {
	out := map[string]mode{}
	for fifths := -7; fifths <= 7; fifths++ {
		out[tonic(fifths, false)+" major"] = mode{fifths, false}
		out[tonic(fifths, true)+" minor"] = mode{fifths, true}
	}
	return out
}

func TestP7_4Names(t *testing.T) {
	if len(named()) != 30 {
		t.Fatal(named())
	}
	for name, m := range named() {
		if s, e := key.Name(m.fifths, m.minor); s != name || e != api.OK {
			t.Errorf("Name(%d, %t) = %q, error %d; want %q", m.fifths, m.minor, s, e, name)
		}
		if fifths, minor, e := key.Parse(name); fifths != m.fifths || minor != m.minor || e != api.OK {
			t.Errorf("Parse(%q) = %d, %t, error %d; want %v", name, fifths, minor, e, m)
		}
	}
	for _, fifths := range wrong {
		for _, minor := range both {
			if s, e := key.Name(fifths, minor); s != "" || e != api.ErrRange {
				t.Errorf("Name(%d, %t) = %q, error %d", fifths, minor, s, e)
			}
		}
	}
}

func TestP7_4Examples(t *testing.T) {
	for name, m := range map[string]mode{"D major": {2, false}, "B minor": {2, true}, "Eb major": {-3, false}, "C# major": {7, false}, "Ab minor": {-7, true}} {
		if s, e := key.Name(m.fifths, m.minor); s != name || e != api.OK {
			t.Errorf("Name(%d, %t) = %q, error %d", m.fifths, m.minor, s, e)
		}
	}
}

func TestP7_4ParseAll(t *testing.T) {
	known := named()
	for _, letter := range []string{"", "A", "B", "C", "D", "E", "F", "G", "H", "a", "b", "c", "g", "CC", " C", "#", "ä", "\x00"} {
		for _, sign := range []string{"", "b", "#", "bb", "##", "b#", "B", "n", " ", "x"} {
			for _, word := range []string{" major", " minor", "major", "minor", "", " ", " Major", " MINOR", "  major", " minor ", " major minor", " maj", "m", " minor major", " minormajor"} {
				s := letter + sign + word
				m, ok := known[s]
				error := api.OK
				if !ok {
					error = api.ErrName
				}
				if fifths, minor, e := key.Parse(s); fifths != m.fifths || minor != m.minor || e != error {
					t.Errorf("Parse(%q) = %d, %t, error %d; want %v, error %d", s, fifths, minor, e, m, error)
				}
			}
		}
	}
}
