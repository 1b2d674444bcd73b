package key_test

import (
	"math"
	"slices"
	"testing"

	"hemiola/api"
	"hemiola/key"
)

// wrong are no numbers of fifths.
var wrong = []int{-8, 8, -9, 9, 12, -12, 100, math.MinInt, math.MaxInt}

// sharps and flats are the orders of sharps and of flats.
var (
	sharps = []int{3, 0, 4, 1, 5, 2, 6}
	flats  = []int{6, 2, 5, 1, 4, 0, 3}
)

// altered returns the altered steps of a signature, and the alteration.
func altered(fifths int) ([]int, int) {
	if fifths < 0 {
		return flats[:-fifths], -1
	}
	return sharps[:fifths], 1
}

// alteration returns the alteration of a step under a signature.
func alteration(fifths, step int) int {
	if steps, alter := altered(fifths); slices.Contains(steps, step) {
		return alter
	}
	return 0
}

func TestP7_1Check(t *testing.T) {
	if key.MaxFifths != 7 {
		t.Error(key.MaxFifths)
	}
	for fifths := -7; fifths <= 7; fifths++ {
		if e := key.Check(fifths); e != api.OK {
			t.Errorf("Check(%d) = %d", fifths, e)
		}
	}
	for _, fifths := range wrong {
		if e := key.Check(fifths); e != api.ErrRange {
			t.Errorf("Check(%d) = %d", fifths, e)
		}
	}
}

func TestP7_1Alter(t *testing.T) {
	for fifths := -7; fifths <= 7; fifths++ {
		for step := range 7 {
			if a, e := key.Alter(fifths, step); a != alteration(fifths, step) || e != api.OK {
				t.Errorf("Alter(%d, %d) = %d, error %d", fifths, step, a, e)
			}
		}
		for _, step := range []int{-1, 7, 8, math.MinInt, math.MaxInt} {
			if a, e := key.Alter(fifths, step); a != 0 || e != api.ErrPitch {
				t.Errorf("Alter(%d, %d) = %d, error %d", fifths, step, a, e)
			}
		}
	}
	for _, fifths := range wrong {
		for _, step := range []int{-1, 0, 6, 7, math.MaxInt} {
			if a, e := key.Alter(fifths, step); a != 0 || e != api.ErrRange {
				t.Errorf("Alter(%d, %d) = %d, error %d", fifths, step, a, e)
			}
		}
	}
}

func TestP7_1Signature(t *testing.T) {
	for fifths := -7; fifths <= 7; fifths++ {
		want, _ := altered(fifths)
		l, e := key.Signature(fifths)
		if !slices.Equal(l, want) || e != api.OK {
			t.Errorf("Signature(%d) = %v, error %d; want %v", fifths, l, e, want)
		}
		clear(l)
		if again, _ := key.Signature(fifths); !slices.Equal(again, want) {
			t.Errorf("a change of Signature(%d) changes the next one", fifths)
		}
	}
	for _, fifths := range wrong {
		if l, e := key.Signature(fifths); len(l) != 0 || e != api.ErrRange {
			t.Errorf("Signature(%d) = %v, error %d", fifths, l, e)
		}
	}
}

func TestP7_5Transpose(t *testing.T) {
	for fifths := -7; fifths <= 7; fifths++ {
		for steps := -77; steps <= 77; steps++ {
			for semitones := -140; semitones <= 140; semitones++ {
				want := fifths + 7*semitones - 12*steps
				for want > 7 {
					want -= 12
				}
				for want < -7 {
					want += 12
				}
				i := api.Interval{Steps: steps, Semitones: semitones}
				if n, e := key.Transpose(fifths, i); n != want || e != api.OK {
					t.Fatalf("Transpose(%d, %v) = %d, error %d; want %d", fifths, i, n, e, want)
				}
			}
		}
	}
}

func TestP7_5TransposeExamples(t *testing.T) {
	for _, c := range []struct{ fifths, steps, semitones, want int }{
		{5, 1, 2, 7}, {7, 1, 2, -3}, {-3, -1, -2, -5}, {0, 0, 0, 0}, {0, 4, 7, 1}, {0, 3, 5, -1}, {-7, 3, 5, 4}, {7, 4, 7, -4}, {-7, 4, 7, -6}, {0, 7, 12, 0}, {6, 1, 2, -4}, {-6, -1, -2, 4},
		{7, 0, 0, 7}, {-7, 0, 0, -7}, {0, 0, 1, 7}, {0, 0, -1, -7}, {1, 0, 1, -4}, {0, 77, 140, -4}, {0, 77, -140, 4}, {0, -77, 140, -4},
	} {
		if n, e := key.Transpose(c.fifths, api.Interval{Steps: c.steps, Semitones: c.semitones}); n != c.want || e != api.OK {
			t.Errorf("Transpose(%d, {%d, %d}) = %d, error %d; want %d", c.fifths, c.steps, c.semitones, n, e, c.want)
		}
	}
}

func TestP7_5TransposeErrors(t *testing.T) {
	bad := []api.Interval{
		{Steps: 78}, {Steps: -78}, {Semitones: 141}, {Semitones: -141}, {Steps: 77, Semitones: 141}, {Steps: -78, Semitones: -140},
		{Steps: math.MaxInt}, {Steps: math.MinInt}, {Semitones: math.MaxInt}, {Semitones: math.MinInt},
	}
	for _, i := range bad {
		for fifths := -8; fifths <= 8; fifths++ {
			if n, e := key.Transpose(fifths, i); n != 0 || e != api.ErrRange {
				t.Errorf("Transpose(%d, %v) = %d, error %d", fifths, i, n, e)
			}
		}
	}
	for _, fifths := range wrong {
		if n, e := key.Transpose(fifths, api.Interval{Steps: 1, Semitones: 2}); n != 0 || e != api.ErrRange {
			t.Errorf("Transpose(%d) = %d, error %d", fifths, n, e)
		}
	}
}

func TestP7_7Naturals(t *testing.T) {
	for from := -7; from <= 7; from++ {
		for to := -7; to <= 7; to++ {
			var want []int
			steps, _ := altered(from)
			for _, step := range steps {
				if alteration(to, step) == 0 {
					want = append(want, step)
				}
			}
			if l, e := key.Naturals(from, to); !slices.Equal(l, want) || e != api.OK {
				t.Errorf("Naturals(%d, %d) = %v, error %d; want %v", from, to, l, e, want)
			}
		}
		for _, fifths := range wrong {
			if l, e := key.Naturals(from, fifths); len(l) != 0 || e != api.ErrRange {
				t.Errorf("Naturals(%d, %d) = %v, error %d", from, fifths, l, e)
			}
			if l, e := key.Naturals(fifths, from); len(l) != 0 || e != api.ErrRange {
				t.Errorf("Naturals(%d, %d) = %v, error %d", fifths, from, l, e)
			}
			if l, e := key.Naturals(fifths, fifths); len(l) != 0 || e != api.ErrRange {
				t.Errorf("Naturals(%d, %d) = %v, error %d", fifths, fifths, l, e)
			}
		}
	}
}

func TestP7_7NaturalsExamples(t *testing.T) {
	for _, c := range []struct {
		from, to int
		want     []int
	}{
		{3, 1, []int{0, 4}}, {-2, 2, []int{6, 2}}, {1, 3, nil}, {0, 7, nil}, {7, 0, sharps}, {-7, 0, flats}, {7, -7, nil}, {-4, 6, []int{6}}, {2, 2, nil}, {-3, -1, []int{2, 5}},
	} {
		l, e := key.Naturals(c.from, c.to)
		if !slices.Equal(l, c.want) || e != api.OK {
			t.Errorf("Naturals(%d, %d) = %v, error %d; want %v", c.from, c.to, l, e, c.want)
		}
		clear(l)
		if again, _ := key.Naturals(c.from, c.to); !slices.Equal(again, c.want) {
			t.Errorf("a change of Naturals(%d, %d) changes the next one", c.from, c.to)
		}
	}
}

func TestP7_8TransposeBack(t *testing.T) {
	for fifths := -7; fifths <= 7; fifths++ {
		for steps := -77; steps <= 77; steps++ {
			for semitones := -140; semitones <= 140; semitones++ {
				moved := fifths + 7*semitones - 12*steps
				if moved < -7 || moved > 7 {
					continue
				}
				n, e := key.Transpose(fifths, api.Interval{Steps: steps, Semitones: semitones})
				back, f := key.Transpose(n, api.Interval{Steps: -steps, Semitones: -semitones})
				if n != moved || back != fifths || e != api.OK || f != api.OK {
					t.Fatalf("%d by {%d, %d} is %d, and back %d; errors %d, %d", fifths, steps, semitones, n, back, e, f)
				}
			}
		}
	}
}

func TestP7_8TransposeSounding(t *testing.T) {
	for fifths := -7; fifths <= 7; fifths++ {
		before := classes(t, fifths)
		for steps := -12; steps <= 12; steps++ {
			for semitones := -24; semitones <= 24; semitones++ {
				n, _ := key.Transpose(fifths, api.Interval{Steps: steps, Semitones: semitones})
				after := classes(t, n)
				for _, c := range before {
					if !slices.Contains(after, (c+semitones+24)%12) {
						t.Fatalf("%d by {%d, %d} is %d, but %v and %v", fifths, steps, semitones, n, before, after)
					}
				}
			}
		}
	}
}

// classes returns the numbers of the major scale of a signature, modulo 12.
func classes(t *testing.T, fifths int) []int {
	l, e := key.Scale(fifths, false, 4)
	if e != api.OK {
		t.Fatal(fifths, e)
	}
	out := make([]int, len(l))
	for i, p := range l {
		out[i] = number(p) % 12
	}
	return out
}
