package clef_test

import (
	"slices"
	"testing"

	"hemiola/api"
	"hemiola/clef"
)

// bestOf returns the first clef with the fewest ledger lines.
func bestOf(clefs []int, l []api.Pitch) int {
	best, least := 0, 0
	for i, c := range clefs {
		lines := 0
		for _, p := range l {
			position := 7*p.Octave + p.Step - rows[c-1].middle
			lines += max(0, position-4, -position-4) / 2
		}
		if i == 0 || lines < least {
			best, least = c, lines
		}
	}
	return best
}

func TestP8_6Best(t *testing.T) {
	pitches := all()
	seed := uint32(1)
	next := func(n int) int {
		seed = seed*1664525 + 1013904223
		return int(seed>>16) % n
	}
	for range 3000 {
		clefs := make([]int, 1+next(5))
		for i := range clefs {
			clefs[i] = 1 + next(9)
		}
		low := next(len(pitches) - 60)
		l := make([]api.Pitch, next(6))
		for i := range l {
			l[i] = pitches[low+next(60)]
		}
		keptClefs, kept := slices.Clone(clefs), slices.Clone(l)
		if c, e := clef.Best(clefs, l); c != bestOf(clefs, l) || e != api.OK {
			t.Fatalf("Best(%v, %v) = %d, error %d; want %d", clefs, l, c, e, bestOf(clefs, l))
		}
		if !slices.Equal(clefs, keptClefs) || !slices.Equal(l, kept) {
			t.Fatal("Best changes its arguments")
		}
	}
}

func TestP8_6BestExamples(t *testing.T) {
	middle, low, high := api.Pitch{Octave: 4}, api.Pitch{Octave: 2}, api.Pitch{Octave: 6}
	for _, c := range []struct {
		clefs []int
		l     []api.Pitch
		want  int
	}{
		{[]int{clef.Treble, clef.Alto, clef.Bass}, []api.Pitch{middle}, clef.Alto},
		{[]int{clef.Treble, clef.Bass}, []api.Pitch{middle}, clef.Treble}, {[]int{clef.Bass, clef.Treble}, []api.Pitch{middle}, clef.Bass},
		{[]int{clef.Treble, clef.Bass}, []api.Pitch{low, middle}, clef.Bass}, {[]int{clef.Bass, clef.Treble}, []api.Pitch{middle, high}, clef.Treble},
		{[]int{clef.Tenor, clef.Bass}, nil, clef.Tenor}, {[]int{clef.BassDown}, []api.Pitch{high}, clef.BassDown}, {[]int{clef.Bass, clef.Bass}, []api.Pitch{low}, clef.Bass},
		// D2 and C2 need one and two ledger lines with a bass clef, and none with a bass8 clef.
		{[]int{clef.Bass, clef.BassDown}, []api.Pitch{{Step: 1, Octave: 2}, low}, clef.BassDown},
		// Neither F4 nor E4 needs one with any of both.
		{[]int{clef.Alto, clef.Treble}, []api.Pitch{{Step: 3, Octave: 4}, {Step: 2, Octave: 4}}, clef.Alto},
	} {
		if best, e := clef.Best(c.clefs, c.l); best != c.want || e != api.OK {
			t.Errorf("Best(%v, %v) = %d, error %d; want %d", c.clefs, c.l, best, e, c.want)
		}
	}
}

func TestP8_6BestErrors(t *testing.T) {
	good := []api.Pitch{{Octave: 4}}
	for _, c := range []struct {
		clefs []int
		l     []api.Pitch
		e     api.Errno
	}{
		{nil, nil, api.ErrShort}, {[]int{}, good, api.ErrShort}, {nil, missing, api.ErrShort},
		{[]int{0}, good, api.ErrKind}, {[]int{clef.Treble, 10}, good, api.ErrKind}, {[]int{clef.Treble, clef.Bass, -1}, missing, api.ErrKind}, {[]int{0}, nil, api.ErrKind},
		{[]int{clef.Treble}, missing, api.ErrPitch}, {[]int{clef.Bass, clef.Treble}, append(slices.Clone(good), missing[1]), api.ErrPitch},
	} {
		if best, e := clef.Best(c.clefs, c.l); best != 0 || e != c.e {
			t.Errorf("Best(%v, %v) = %d, error %d; want error %d", c.clefs, c.l, best, e, c.e)
		}
	}
	for _, w := range wrong {
		if best, e := clef.Best([]int{1, w}, good); best != 0 || e != api.ErrKind {
			t.Errorf("Best of the clef %d = %d, error %d", w, best, e)
		}
	}
	for _, p := range missing {
		if best, e := clef.Best([]int{1}, []api.Pitch{p}); best != 0 || e != api.ErrPitch {
			t.Errorf("Best of %v = %d, error %d", p, best, e)
		}
	}
}

// TestP8_6BestOfMany tests that long lists take no longer than their lengths together.
func TestP8_6BestOfMany(t *testing.T) {
	clefs := make([]int, 100000)
	for i := range clefs {
		clefs[i] = 1 + i%9
	}
	l := slices.Repeat([]api.Pitch{{Octave: 2}}, 100000)
	if best, e := clef.Best(clefs, l); best != clef.BassDown || e != api.OK {
		t.Errorf("Best = %d, error %d", best, e)
	}
}
