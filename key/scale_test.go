package key_test

import (
	"math"
	"slices"
	"strings"
	"testing"

	"hemiola/api"
	"hemiola/key"
)

// natural are the semitones of the steps.
var natural = []int{0, 2, 4, 5, 7, 9, 11}

// number returns the semitone number of a pitch.
func number(p api.Pitch) int { return 12*(p.Octave+1) + natural[p.Step] + p.Alter }

// tonics are the tonics of the major and the minor keys from seven flats to seven sharps.
const (
	majors = "Cb Gb Db Ab Eb Bb F C G D A E B F# C#"
	minors = "Ab Eb Bb F C G D A E B F# C# G# D# A#"
)

// tonic returns the name of the tonic of a key.
func tonic(fifths int, minor bool) string {
	if minor {
		return strings.Fields(minors)[fifths+7]
	}
	return strings.Fields(majors)[fifths+7]
}

// class returns the step and the alteration of a name.
func class(name string) (step, alter int) {
	return strings.IndexByte("CDEFGAB", name[0]), strings.Count(name, "#") - strings.Count(name, "b")
}

// both are the two modes.
var both = []bool{false, true}

func TestP7_2Tonic(t *testing.T) {
	for _, minor := range both {
		for fifths := -7; fifths <= 7; fifths++ {
			step, alter := class(tonic(fifths, minor))
			if s, a, e := key.Tonic(fifths, minor); s != step || a != alter || e != api.OK {
				t.Errorf("Tonic(%d, %t) = %d, %d, error %d; want %d, %d", fifths, minor, s, a, e, step, alter)
			}
		}
		for _, fifths := range wrong {
			if s, a, e := key.Tonic(fifths, minor); s != 0 || a != 0 || e != api.ErrRange {
				t.Errorf("Tonic(%d, %t) = %d, %d, error %d", fifths, minor, s, a, e)
			}
		}
	}
}

func TestP7_2Of(t *testing.T) {
	for _, minor := range both {
		for step := range 7 {
			for alter := -2; alter <= 2; alter++ {
				want, error := 0, api.ErrRange
				for fifths := -7; fifths <= 7; fifths++ {
					if s, a := class(tonic(fifths, minor)); s == step && a == alter {
						want, error = fifths, api.OK
					}
				}
				if n, e := key.Of(step, alter, minor); n != want || e != error {
					t.Errorf("Of(%d, %d, %t) = %d, error %d; want %d, error %d", step, alter, minor, n, e, want, error)
				}
			}
		}
	}
}

// noClasses are no steps and alterations of pitches.
var noClasses = [][2]int{
	{-1, 0}, {7, 0}, {0, -3}, {0, 3}, {-1, -3}, {7, 3}, {6, 3}, {3, -3},
	{math.MinInt, 0}, {math.MaxInt, 0}, {0, math.MinInt}, {0, math.MaxInt}, {math.MaxInt, math.MinInt},
}

func TestP7_2OfErrors(t *testing.T) {
	for _, c := range noClasses {
		for _, minor := range both {
			if n, e := key.Of(c[0], c[1], minor); n != 0 || e != api.ErrPitch {
				t.Errorf("Of(%d, %d, %t) = %d, error %d", c[0], c[1], minor, n, e)
			}
		}
	}
}

func TestP7_3Scale(t *testing.T) {
	for _, minor := range both {
		for fifths := -7; fifths <= 7; fifths++ {
			step, _ := class(tonic(fifths, minor))
			for octave := -3; octave <= 11; octave++ {
				var want []api.Pitch
				error := api.OK
				for s := step; s < step+7; s++ {
					p := api.Pitch{Step: s % 7, Alter: alteration(fifths, s%7), Octave: octave + s/7}
					if p.Octave < -1 || p.Octave > 9 {
						error = api.ErrPitch
					}
					want = append(want, p)
				}
				if error != api.OK {
					want = nil
				}
				if l, e := key.Scale(fifths, minor, octave); !slices.Equal(l, want) || e != error {
					t.Errorf("Scale(%d, %t, %d) = %v, error %d; want %v, error %d", fifths, minor, octave, l, e, want, error)
				}
			}
		}
	}
}

func TestP7_3ScaleExamples(t *testing.T) {
	want := []api.Pitch{{Step: 1, Octave: 4}, {Step: 2, Octave: 4}, {Step: 3, Alter: 1, Octave: 4}, {Step: 4, Octave: 4}, {Step: 5, Octave: 4}, {Step: 6, Octave: 4}, {Step: 0, Alter: 1, Octave: 5}}
	l, e := key.Scale(2, false, 4)
	if !slices.Equal(l, want) || e != api.OK {
		t.Error(l, e)
	}
	clear(l)
	if again, _ := key.Scale(2, false, 4); !slices.Equal(again, want) {
		t.Error("a change of the result changes the next one")
	}
	// Octaves are checked, and not whether the pitches exist.
	if l, e := key.Scale(0, false, 9); len(l) != 7 || l[6] != (api.Pitch{Step: 6, Octave: 9}) || e != api.OK {
		t.Error(l, e)
	}
	if l, e := key.Scale(-7, false, -1); len(l) != 7 || l[0] != (api.Pitch{Alter: -1, Octave: -1}) || e != api.OK {
		t.Error(l, e)
	}
	if l, e := key.Scale(2, false, 9); len(l) != 0 || e != api.ErrPitch {
		t.Error(l, e)
	}
}

func TestP7_3ScaleErrors(t *testing.T) {
	for _, minor := range both {
		for _, octave := range []int{-2, 10, math.MinInt, math.MaxInt} {
			for fifths := -7; fifths <= 7; fifths++ {
				if l, e := key.Scale(fifths, minor, octave); len(l) != 0 || e != api.ErrPitch {
					t.Errorf("Scale(%d, %t, %d) = %v, error %d", fifths, minor, octave, l, e)
				}
			}
			for _, fifths := range wrong {
				if l, e := key.Scale(fifths, minor, octave); len(l) != 0 || e != api.ErrRange {
					t.Errorf("Scale(%d, %t, %d) = %v, error %d", fifths, minor, octave, l, e)
				}
			}
		}
		for _, fifths := range wrong {
			if l, e := key.Scale(fifths, minor, 4); len(l) != 0 || e != api.ErrRange {
				t.Errorf("Scale(%d, %t, 4) = %v, error %d", fifths, minor, l, e)
			}
		}
	}
}

func TestP7_8Scales(t *testing.T) {
	for fifths := -7; fifths <= 7; fifths++ {
		for minor, want := range map[bool][]int{false: {2, 2, 1, 2, 2, 2}, true: {2, 1, 2, 2, 1, 2}} {
			l, e := key.Scale(fifths, minor, 4)
			if len(l) != 7 || e != api.OK {
				t.Fatal(fifths, minor, l, e)
			}
			for i := range 6 {
				if d := number(l[i+1]) - number(l[i]); d != want[i] {
					t.Errorf("Scale(%d, %t, 4) = %v", fifths, minor, l)
				}
			}
			if s, a, _ := key.Tonic(fifths, minor); l[0] != (api.Pitch{Step: s, Alter: a, Octave: 4}) {
				t.Errorf("Scale(%d, %t, 4) begins with %v", fifths, minor, l[0])
			}
		}
	}
}

func TestP7_6Diatonic(t *testing.T) {
	for fifths := -9; fifths <= 9; fifths++ {
		for step := -2; step <= 9; step++ {
			for alter := -4; alter <= 4; alter++ {
				for _, octave := range []int{math.MinInt, -2, 4, 100} {
					want := -7 <= fifths && fifths <= 7 && 0 <= step && step <= 6 && alteration(fifths, step) == alter
					if b := key.Diatonic(fifths, api.Pitch{Step: step, Alter: alter, Octave: octave}); b != want {
						t.Errorf("Diatonic(%d, {%d, %d, %d}) = %t", fifths, step, alter, octave, b)
					}
				}
			}
		}
	}
	for _, fifths := range wrong {
		if key.Diatonic(fifths, api.Pitch{Octave: 4}) {
			t.Errorf("Diatonic(%d, C4) = true", fifths)
		}
	}
	for _, c := range noClasses {
		if key.Diatonic(0, api.Pitch{Step: c[0], Alter: c[1], Octave: 4}) {
			t.Errorf("Diatonic(0, %v) = true", c)
		}
	}
}

func TestP7_6Degree(t *testing.T) {
	for fifths := -7; fifths <= 7; fifths++ {
		first, _ := class(tonic(fifths, false))
		for step := range 7 {
			for alter := -2; alter <= 2; alter++ {
				degree := 0
				for (first+degree)%7 != step {
					degree++
				}
				for _, octave := range []int{math.MinInt, -1, 4, math.MaxInt} {
					p := api.Pitch{Step: step, Alter: alter, Octave: octave}
					if d, raised, e := key.Degree(fifths, p); d != degree || raised != alter-alteration(fifths, step) || e != api.OK {
						t.Errorf("Degree(%d, %v) = %d, %d, error %d", fifths, p, d, raised, e)
					}
				}
			}
		}
	}
	for _, c := range []struct{ fifths, step, alter, degree, raised int }{{2, 1, 0, 0, 0}, {2, 0, 0, 6, -1}, {2, 0, 1, 6, 0}, {-7, 0, 2, 0, 3}, {7, 6, -2, 6, -3}, {0, 3, 1, 3, 1}} {
		if d, raised, e := key.Degree(c.fifths, api.Pitch{Step: c.step, Alter: c.alter, Octave: 4}); d != c.degree || raised != c.raised || e != api.OK {
			t.Errorf("Degree(%v) = %d, %d, error %d", c, d, raised, e)
		}
	}
}

func TestP7_6DegreeErrors(t *testing.T) {
	for _, c := range noClasses {
		p := api.Pitch{Step: c[0], Alter: c[1], Octave: 4}
		for fifths := -7; fifths <= 7; fifths++ {
			if d, raised, e := key.Degree(fifths, p); d != 0 || raised != 0 || e != api.ErrPitch {
				t.Errorf("Degree(%d, %v) = %d, %d, error %d", fifths, p, d, raised, e)
			}
		}
		for _, fifths := range wrong {
			if d, raised, e := key.Degree(fifths, p); d != 0 || raised != 0 || e != api.ErrRange {
				t.Errorf("Degree(%d, %v) = %d, %d, error %d", fifths, p, d, raised, e)
			}
		}
	}
	for _, fifths := range wrong {
		if d, raised, e := key.Degree(fifths, api.Pitch{Octave: 4}); d != 0 || raised != 0 || e != api.ErrRange {
			t.Errorf("Degree(%d, C4) = %d, %d, error %d", fifths, d, raised, e)
		}
	}
}
