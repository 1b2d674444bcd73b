package spelling_test

import (
	"math"
	"slices"
	"testing"

	"hemiola/api"
	"hemiola/spelling"
)

// wrongKeys are no numbers of fifths, wrongNumbers no semitone numbers, and missing no pitches.
var (
	wrongKeys    = []int{-8, 8, 9, -9, 12, math.MinInt, math.MaxInt}
	wrongNumbers = []int{-1, 128, 129, -128, math.MinInt, math.MaxInt}
	missing      = []api.Pitch{of(0, -1, -1), of(5, 0, 9), of(7, 0, 4), of(-1, 0, 4), of(0, 3, 4), of(0, -3, 4), of(0, 0, 10), of(0, 0, -2), of(math.MaxInt, 0, 4), of(0, math.MinInt, 4)}
)

func of(step, alter, octave int) api.Pitch {
	return api.Pitch{Step: step, Alter: alter, Octave: octave}
}

// numberOf returns the semitone number of a pitch, placeOf its place on the line of fifths, and outsideOf by how many places it is outside a key.
func numberOf(p api.Pitch) int {
	return 12*(p.Octave+1) + []int{0, 2, 4, 5, 7, 9, 11}[p.Step] + p.Alter
}

func placeOf(p api.Pitch) int { return []int{0, 2, 4, -1, 1, 3, 5}[p.Step] + 7*p.Alter }

func outsideOf(p api.Pitch, fifths int) int {
	switch place := placeOf(p); {
	case place < fifths-1:
		return fifths - 1 - place
	case place > fifths+5:
		return place - fifths - 5
	}
	return 0
}

// costOf returns the cost of a sequence in a key.
func costOf(l []api.Pitch, fifths int) int {
	cost := 0
	for i, p := range l {
		cost += 3 * outsideOf(p, fifths)
		if i > 0 {
			d := placeOf(p) - placeOf(l[i-1])
			cost += max(d, -d)
		}
	}
	return cost
}

// byNumber returns the pitches with each number from 0 to 127, in the order of their diatonic numbers.
func byNumber() [128][]api.Pitch {
	var out [128][]api.Pitch
	for octave := -1; octave <= 9; octave++ {
		for step := range 7 {
			for alter := -2; alter <= 2; alter++ {
				p := of(step, alter, octave)
				if n := numberOf(p); n >= 0 && n < 128 {
					out[n] = append(out[n], p)
				}
			}
		}
	}
	return out
}

// spellings returns all spellings of numbers, the better ones of equal costs first.
func spellings(numbers []int) [][]api.Pitch {
	all := [][]api.Pitch{nil}
	known := byNumber()
	for _, n := range numbers {
		var longer [][]api.Pitch
		for _, l := range all {
			for _, p := range known[n] {
				longer = append(longer, append(slices.Clone(l), p))
			}
		}
		all = longer
	}
	return all
}

// bestOf returns the best spelling of numbers, given the cost of one in a key, and whether the next one has the same cost.
func bestOf(numbers []int, fifths int, cost func([]api.Pitch, int) int) (best []api.Pitch, tied bool) {
	least := -1
	for _, l := range spellings(numbers) {
		switch c := cost(l, fifths); {
		case least < 0 || c < least:
			best, least, tied = l, c, false
		case c == least:
			tied = true
		}
	}
	return best, tied
}

// random returns a function that returns numbers less than n.
func random(seed uint32) func(n int) int {
	return func(n int) int {
		seed = seed*1664525 + 1013904223
		return int(seed>>12) % n
	}
}

func TestP9_1Constants(t *testing.T) {
	if spelling.MaxNotes != 1024 || spelling.Outside != 3 || spelling.Distance != 1 {
		t.Error(spelling.MaxNotes, spelling.Outside, spelling.Distance)
	}
}

func TestP9_1Cost(t *testing.T) {
	next := random(7)
	known := byNumber()
	for fifths := -7; fifths <= 7; fifths++ {
		for _, l := range known {
			for _, p := range l {
				if n, e := spelling.Cost([]api.Pitch{p}, fifths); n != 3*outsideOf(p, fifths) || e != api.OK {
					t.Errorf("Cost(%v, %d) = %d, error %d", p, fifths, n, e)
				}
			}
		}
		for range 200 {
			l := make([]api.Pitch, next(8))
			for i := range l {
				choices := known[next(128)]
				l[i] = choices[next(len(choices))]
			}
			kept := slices.Clone(l)
			if n, e := spelling.Cost(l, fifths); n != costOf(l, fifths) || e != api.OK || !slices.Equal(l, kept) {
				t.Errorf("Cost(%v, %d) = %d, error %d; want %d", l, fifths, n, e, costOf(kept, fifths))
			}
		}
	}
}

func TestP9_1CostExamples(t *testing.T) {
	for _, c := range []struct {
		l            []api.Pitch
		fifths, want int
	}{
		{nil, 0, 0}, {nil, -7, 0},
		{[]api.Pitch{of(0, 0, 4), of(0, 1, 4), of(1, 0, 4)}, 0, 18}, {[]api.Pitch{of(0, 0, 4), of(1, -1, 4), of(1, 0, 4)}, 0, 24},
		{[]api.Pitch{of(0, 0, 4), of(1, -1, 4), of(1, 0, 4)}, -5, 3*2 + 5 + 7},
		{[]api.Pitch{of(3, 0, 4)}, 0, 0}, {[]api.Pitch{of(6, 0, 4)}, 0, 0}, {[]api.Pitch{of(3, 1, 4)}, 0, 3}, {[]api.Pitch{of(6, -1, 4)}, 0, 3},
		{[]api.Pitch{of(6, 2, 4)}, -7, 3 * 21}, {[]api.Pitch{of(3, -2, 4)}, 7, 3 * 21}, {[]api.Pitch{of(6, 2, 4), of(3, -2, 4)}, 0, 3*14 + 3*14 + 34},
	} {
		if n, e := spelling.Cost(c.l, c.fifths); n != c.want || e != api.OK {
			t.Errorf("Cost(%v, %d) = %d, error %d; want %d", c.l, c.fifths, n, e, c.want)
		}
	}
}

func TestP9_1CostErrors(t *testing.T) {
	long := slices.Repeat([]api.Pitch{of(0, 0, 4)}, 1025)
	if n, e := spelling.Cost(long[1:], 0); n != 0 || e != api.OK {
		t.Errorf("Cost of 1024 notes = %d, error %d", n, e)
	}
	for _, p := range missing {
		for _, l := range [][]api.Pitch{{p}, {of(0, 0, 4), p}, {p, of(0, 1, 4)}, append(slices.Clone(long[:1023]), p)} {
			if n, e := spelling.Cost(l, 3); n != 0 || e != api.ErrPitch {
				t.Errorf("Cost with %v = %d, error %d", p, n, e)
			}
		}
		if n, e := spelling.Cost(append(slices.Clone(long), p), 0); n != 0 || e != api.ErrLimit {
			t.Errorf("Cost of a long list with %v = %d, error %d", p, n, e)
		}
	}
	if n, e := spelling.Cost(long, 0); n != 0 || e != api.ErrLimit {
		t.Errorf("Cost of 1025 notes = %d, error %d", n, e)
	}
	for _, fifths := range wrongKeys {
		for _, l := range [][]api.Pitch{nil, long[:3], long, missing} {
			if n, e := spelling.Cost(l, fifths); n != 0 || e != api.ErrRange {
				t.Errorf("Cost of %d notes in %d = %d, error %d", len(l), fifths, n, e)
			}
		}
	}
}

// scaleOf returns the first seven pitches of a key from a number on.
func scaleOf(fifths, from int) []api.Pitch {
	var l []api.Pitch
	for n, choices := range byNumber() {
		for _, p := range choices {
			if n >= from && outsideOf(p, fifths) == 0 && len(l) < 7 {
				l = append(l, p)
			}
		}
	}
	return l
}

func TestP9_4Scale(t *testing.T) {
	for fifths := -7; fifths <= 7; fifths++ {
		for from := 0; from <= 116; from++ {
			want := scaleOf(fifths, from)
			l, e := spelling.Scale(fifths, from)
			if !slices.Equal(l, want) || len(l) != 7 || e != api.OK {
				t.Errorf("Scale(%d, %d) = %v, error %d; want %v", fifths, from, l, e, want)
			}
			clear(l)
			if again, _ := spelling.Scale(fifths, from); !slices.Equal(again, want) {
				t.Errorf("a change of Scale(%d, %d) changes the next one", fifths, from)
			}
		}
	}
}

func TestP9_4ScaleExamples(t *testing.T) {
	for _, c := range []struct {
		fifths, from int
		want         []api.Pitch
	}{
		{2, 60, []api.Pitch{of(0, 1, 4), of(1, 0, 4), of(2, 0, 4), of(3, 1, 4), of(4, 0, 4), of(5, 0, 4), of(6, 0, 4)}},
		{0, 60, []api.Pitch{of(0, 0, 4), of(1, 0, 4), of(2, 0, 4), of(3, 0, 4), of(4, 0, 4), of(5, 0, 4), of(6, 0, 4)}},
		// The number 0 is B sharp in the octave -2, which does not exist.
		{7, 0, []api.Pitch{of(0, 1, -1), of(1, 1, -1), of(2, 1, -1), of(3, 1, -1), of(4, 1, -1), of(5, 1, -1), of(6, 1, -1)}},
		{-7, 116, []api.Pitch{of(5, -1, 8), of(6, -1, 8), of(0, -1, 9), of(1, -1, 9), of(2, -1, 9), of(3, -1, 9), of(4, -1, 9)}},
		{0, 116, []api.Pitch{of(5, 0, 8), of(6, 0, 8), of(0, 0, 9), of(1, 0, 9), of(2, 0, 9), of(3, 0, 9), of(4, 0, 9)}},
	} {
		if l, e := spelling.Scale(c.fifths, c.from); !slices.Equal(l, c.want) || e != api.OK {
			t.Errorf("Scale(%d, %d) = %v, error %d; want %v", c.fifths, c.from, l, e, c.want)
		}
	}
}

func TestP9_4ScaleErrors(t *testing.T) {
	for _, from := range []int{-1, 117, 127, 128, math.MinInt, math.MaxInt} {
		for fifths := -7; fifths <= 7; fifths++ {
			if l, e := spelling.Scale(fifths, from); len(l) != 0 || e != api.ErrRange {
				t.Errorf("Scale(%d, %d) = %v, error %d", fifths, from, l, e)
			}
		}
	}
	for _, fifths := range wrongKeys {
		for _, from := range []int{-1, 0, 60, 116, 117} {
			if l, e := spelling.Scale(fifths, from); len(l) != 0 || e != api.ErrRange {
				t.Errorf("Scale(%d, %d) = %v, error %d", fifths, from, l, e)
			}
		}
	}
}

// TestP9_5NotesOfTheScale tests that each note of a scale, alone, is spelled as in the scale.
func TestP9_5NotesOfTheScale(t *testing.T) {
	for fifths := -7; fifths <= 7; fifths++ {
		for from := 0; from <= 116; from++ {
			scale, _ := spelling.Scale(fifths, from)
			for _, p := range scale {
				if l, e := spelling.Spell([]int{numberOf(p)}, fifths); !slices.Equal(l, []api.Pitch{p}) || e != api.OK {
					t.Errorf("Spell(%d, %d) = %v, error %d; want %v", numberOf(p), fifths, l, e, p)
				}
				if l, e := spelling.Chord([]int{numberOf(p)}, fifths); !slices.Equal(l, []api.Pitch{p}) || e != api.OK {
					t.Errorf("Chord(%d, %d) = %v, error %d; want %v", numberOf(p), fifths, l, e, p)
				}
			}
		}
	}
}
