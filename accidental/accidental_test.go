package accidental_test

import (
	"math"
	"testing"

	"hemiola/accidental"
	"hemiola/api"
)

// wrongKeys are no numbers of fifths.
var wrongKeys = []int{-8, 8, 9, -9, 12, math.MinInt, math.MaxInt}

func TestP10_4Constants(t *testing.T) {
	for i, n := range []int{accidental.None, accidental.DoubleFlat, accidental.Flat, accidental.Natural, accidental.Sharp, accidental.DoubleSharp} {
		if n != i {
			t.Errorf("the accidental %d has the number %d", i, n)
		}
	}
	if accidental.MaxNotes != 2560 || accidental.Positions != 77 {
		t.Error(accidental.MaxNotes, accidental.Positions)
	}
}

func TestP10_4Accidentals(t *testing.T) {
	for i, alter := range []int{-2, -1, 0, 1, 2} {
		if kind, e := accidental.Of(alter); kind != i+1 || e != api.OK {
			t.Errorf("Of(%d) = %d, error %d", alter, kind, e)
		}
		if n, e := accidental.Alter(i + 1); n != alter || e != api.OK {
			t.Errorf("Alter(%d) = %d, error %d", i+1, n, e)
		}
	}
	for _, alter := range []int{-3, 3, 4, -4, math.MinInt, math.MaxInt} {
		if kind, e := accidental.Of(alter); kind != 0 || e != api.ErrRange {
			t.Errorf("Of(%d) = %d, error %d", alter, kind, e)
		}
	}
	for _, kind := range []int{0, -1, 6, 7, math.MinInt, math.MaxInt} {
		if n, e := accidental.Alter(kind); n != 0 || e != api.ErrKind {
			t.Errorf("Alter(%d) = %d, error %d", kind, n, e)
		}
	}
}
