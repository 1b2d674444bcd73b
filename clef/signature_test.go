package clef_test

import (
	"math"
	"slices"
	"testing"

	"hemiola/api"
	"hemiola/clef"
)

// The steps of sharps and of flats, in order.
var (
	sharps = []int{3, 0, 4, 1, 5, 2, 6}
	flats  = []int{6, 2, 5, 1, 4, 0, 3}
)

// signatureOf returns the positions of a signature: of seven from the lowest one on, those at which the steps stand.
func signatureOf(r row, fifths int) []int {
	steps, lowest := sharps, r.sharps
	if fifths < 0 {
		steps, lowest = flats, r.flats
	}
	var l []int
	for _, step := range steps[:max(fifths, -fifths)] {
		for position := lowest; position < lowest+7; position++ {
			if (position+r.middle+70)%7 == step {
				l = append(l, position)
			}
		}
	}
	return l
}

func TestP8_5Signature(t *testing.T) {
	for _, r := range rows {
		for fifths := -7; fifths <= 7; fifths++ {
			want := signatureOf(r, fifths)
			l, e := clef.Signature(r.clef, fifths)
			if !slices.Equal(l, want) || len(l) != max(fifths, -fifths) || e != api.OK {
				t.Errorf("Signature(%d, %d) = %v, error %d; want %v", r.clef, fifths, l, e, want)
			}
			clear(l)
			if again, _ := clef.Signature(r.clef, fifths); !slices.Equal(again, want) {
				t.Errorf("a change of Signature(%d, %d) changes the next one", r.clef, fifths)
			}
		}
	}
}

func TestP8_5SignatureExamples(t *testing.T) {
	for _, c := range []struct {
		clef, fifths int
		want         []int
	}{
		{clef.Treble, 3, []int{4, 1, 5}}, {clef.Bass, -2, []int{-2, 1}}, {clef.Treble, 0, nil},
		{clef.Treble, 7, []int{4, 1, 5, 2, -1, 3, 0}}, {clef.Treble, -7, []int{0, 3, -1, 2, -2, 1, -3}},
		{clef.TrebleDown, 7, []int{4, 1, 5, 2, -1, 3, 0}}, {clef.TrebleDown, -7, []int{0, 3, -1, 2, -2, 1, -3}},
		{clef.Bass, 7, []int{2, -1, 3, 0, -3, 1, -2}}, {clef.Bass, -7, []int{-2, 1, -3, 0, -4, -1, -5}}, {clef.BassDown, 7, []int{2, -1, 3, 0, -3, 1, -2}},
		{clef.Alto, 7, []int{3, 0, 4, 1, -2, 2, -1}}, {clef.Alto, -7, []int{-1, 2, -2, 1, -3, 0, -4}},
		{clef.Tenor, 7, []int{-2, 2, -1, 3, 0, 4, 1}}, {clef.Tenor, -7, []int{1, 4, 0, 3, -1, 2, -2}},
		{clef.Soprano, 2, []int{-1, 3}}, {clef.Soprano, -2, []int{2, -2}}, {clef.Baritone, 2, []int{0, 4}}, {clef.Baritone, -2, []int{3, -1}},
		{clef.MezzoSoprano, 2, []int{1, -2}}, {clef.MezzoSoprano, -2, []int{-3, 0}},
	} {
		if l, e := clef.Signature(c.clef, c.fifths); !slices.Equal(l, c.want) || e != api.OK {
			t.Errorf("Signature(%d, %d) = %v, error %d; want %v", c.clef, c.fifths, l, e, c.want)
		}
	}
}

func TestP8_5SignatureErrors(t *testing.T) {
	for _, fifths := range []int{-8, 8, 9, -9, 12, math.MinInt, math.MaxInt} {
		for c := 1; c <= 9; c++ {
			if l, e := clef.Signature(c, fifths); len(l) != 0 || e != api.ErrRange {
				t.Errorf("Signature(%d, %d) = %v, error %d", c, fifths, l, e)
			}
		}
		for _, c := range wrong {
			if l, e := clef.Signature(c, fifths); len(l) != 0 || e != api.ErrKind {
				t.Errorf("Signature(%d, %d) = %v, error %d", c, fifths, l, e)
			}
		}
	}
	for _, c := range wrong {
		if l, e := clef.Signature(c, 3); len(l) != 0 || e != api.ErrKind {
			t.Errorf("Signature(%d, 3) = %v, error %d", c, l, e)
		}
	}
}

// TestP8_7SignatureSteps tests that accidentals stand at different positions of their steps.
func TestP8_7SignatureSteps(t *testing.T) {
	for c := 1; c <= 9; c++ {
		for _, fifths := range []int{-7, 7} {
			steps := sharps
			if fifths < 0 {
				steps = flats
			}
			l, _ := clef.Signature(c, fifths)
			for i, position := range l {
				if p, e := clef.At(c, position); p.Step != steps[i] || e != api.OK || slices.Index(l, position) != i {
					t.Errorf("clef %d, %d fifths: the accidental %d is at %d", c, fifths, i, position)
				}
			}
		}
	}
}
