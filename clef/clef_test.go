package clef_test

import (
	"math"
	"testing"

	"hemiola/api"
	"hemiola/clef"
)

// row is a row of the chapter's table, with the lowest positions of sharps and flats.
type row struct {
	clef                  int
	name                  string
	letter                byte
	line, octaves, middle int
	sharps, flats         int
}

var rows = []row{
	{clef.Treble, "treble", 'G', -2, 0, 34, -1, -3},
	{clef.Bass, "bass", 'F', 2, 0, 22, -3, -5},
	{clef.Alto, "alto", 'C', 0, 0, 28, -2, -4},
	{clef.Tenor, "tenor", 'C', 2, 0, 26, -2, -2},
	{clef.Soprano, "soprano", 'C', -4, 0, 32, -2, -3},
	{clef.MezzoSoprano, "mezzosoprano", 'C', -2, 0, 30, -2, -3},
	{clef.Baritone, "baritone", 'F', 0, 0, 24, -2, -3},
	{clef.TrebleDown, "treble8", 'G', -2, -1, 27, -1, -3},
	{clef.BassDown, "bass8", 'F', 2, -1, 15, -3, -5},
}

// wrong are no clefs.
var wrong = []int{0, -1, 10, 11, 100, -9, math.MinInt, math.MaxInt}

func TestP8_1Constants(t *testing.T) {
	if clef.NumClefs != 9 || clef.MaxPosition != 200 {
		t.Error(clef.NumClefs, clef.MaxPosition)
	}
	for i, r := range rows {
		if r.clef != i+1 {
			t.Errorf("the clef %s has the number %d", r.name, r.clef)
		}
	}
}

func TestP8_1Check(t *testing.T) {
	for c := 1; c <= 9; c++ {
		if e := clef.Check(c); e != api.OK {
			t.Errorf("Check(%d) = %d", c, e)
		}
	}
	for _, c := range wrong {
		if e := clef.Check(c); e != api.ErrKind {
			t.Errorf("Check(%d) = %d", c, e)
		}
	}
}

func TestP8_1Names(t *testing.T) {
	for _, r := range rows {
		if s, e := clef.Name(r.clef); s != r.name || e != api.OK {
			t.Errorf("Name(%d) = %q, error %d", r.clef, s, e)
		}
		if c, e := clef.Find(r.name); c != r.clef || e != api.OK {
			t.Errorf("Find(%q) = %d, error %d", r.name, c, e)
		}
	}
	for _, c := range wrong {
		if s, e := clef.Name(c); s != "" || e != api.ErrKind {
			t.Errorf("Name(%d) = %q, error %d", c, s, e)
		}
	}
	for _, s := range []string{"", " ", "Treble", "treble ", " treble", "TREBLE", "treb", "treble9", "treble88", "bass-8", "mezzo", "mezzo-soprano", "G", "alto8", "\x00"} {
		if c, e := clef.Find(s); c != 0 || e != api.ErrNotFound {
			t.Errorf("Find(%q) = %d, error %d", s, c, e)
		}
	}
}

func TestP8_1Signs(t *testing.T) {
	for _, r := range rows {
		if letter, line, octaves, e := clef.Sign(r.clef); letter != r.letter || line != r.line || octaves != r.octaves || e != api.OK {
			t.Errorf("Sign(%d) = %c, %d, %d, error %d", r.clef, letter, line, octaves, e)
		}
	}
	for _, c := range wrong {
		if letter, line, octaves, e := clef.Sign(c); letter != 0 || line != 0 || octaves != 0 || e != api.ErrKind {
			t.Errorf("Sign(%d) = %c, %d, %d, error %d", c, letter, line, octaves, e)
		}
	}
}

// TestP8_1SignsAndMiddleLines tests that the letter of a sign stands on the line of its note: G4, F3 or C4, an octave lower with an 8.
func TestP8_1SignsAndMiddleLines(t *testing.T) {
	notes := map[byte]api.Pitch{'G': {Step: 4, Octave: 4}, 'F': {Step: 3, Octave: 3}, 'C': {Step: 0, Octave: 4}}
	for c := 1; c <= 9; c++ {
		letter, line, octaves, _ := clef.Sign(c)
		p := notes[letter]
		p.Octave += octaves
		if position, e := clef.Position(c, p); position != line || e != api.OK {
			t.Errorf("Position(%d, %v) = %d, error %d; want %d", c, p, position, e, line)
		}
	}
}
