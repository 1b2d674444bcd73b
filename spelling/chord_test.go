package spelling_test

import (
	"slices"
	"testing"

	"hemiola/api"
	"hemiola/spelling"
)

// chordCost returns the cost of a chord in a key.
func chordCost(l []api.Pitch, fifths int) int {
	if len(l) == 0 {
		return 0
	}
	var places []int
	outside := 0
	for _, p := range l {
		places = append(places, placeOf(p))
		outside += outsideOf(p, fifths)
	}
	return 100*(slices.Max(places)-slices.Min(places)) + 3*outside
}

func TestP9_3Chord(t *testing.T) {
	next := random(5)
	tied := 0
	for range 3000 {
		fifths := next(15) - 7
		n := next(128)
		var numbers []int
		for size := next(6); len(numbers) < size && n < 128; n += 1 + next(7) {
			numbers = append(numbers, n)
		}
		kept := slices.Clone(numbers)
		want, equal := bestOf(numbers, fifths, chordCost)
		if equal {
			tied++
		}
		l, e := spelling.Chord(numbers, fifths)
		if !slices.Equal(l, want) || e != api.OK || !slices.Equal(numbers, kept) {
			t.Fatalf("Chord(%v, %d) = %v, error %d; want %v", kept, fifths, l, e, want)
		}
		clear(l)
		if again, _ := spelling.Chord(numbers, fifths); !slices.Equal(again, want) {
			t.Fatalf("a change of Chord(%v, %d) changes the next one", kept, fifths)
		}
	}
	if tied < 5 {
		t.Errorf("only %d chords have several spellings with the least cost", tied)
	}
}

// TestP9_3SmallChords tests all chords of at most three notes within an octave.
func TestP9_3SmallChords(t *testing.T) {
	for _, low := range []int{0, 57, 116} {
		for fifths := -7; fifths <= 7; fifths++ {
			for a := range 12 {
				for b := a + 1; b < 12; b++ {
					for c := b; c < 12; c++ {
						numbers := slices.Compact([]int{low + a, low + b, low + c})
						want, _ := bestOf(numbers, fifths, chordCost)
						if l, e := spelling.Chord(numbers, fifths); !slices.Equal(l, want) || e != api.OK {
							t.Fatalf("Chord(%v, %d) = %v, error %d; want %v", numbers, fifths, l, e, want)
						}
					}
				}
			}
		}
	}
}

func TestP9_3FullChords(t *testing.T) {
	for _, numbers := range [][]int{
		{60, 61, 62, 63, 64, 65, 66, 67, 68, 69}, {0, 13, 26, 39, 52, 65, 78, 91, 104, 117}, {118, 119, 120, 121, 122, 123, 124, 125, 126, 127},
		// In C sharp major, 33 more places outside the key cost less than one more of the span; in C flat major, 34 cost more.
		{24, 36, 48, 60, 62, 64, 65, 66, 68, 76}, {16, 28, 40, 52, 62, 63, 64, 65, 68, 74},
	} {
		for _, fifths := range []int{-7, 0, 4, 7} {
			want, _ := bestOf(numbers, fifths, chordCost)
			if l, e := spelling.Chord(numbers, fifths); !slices.Equal(l, want) || e != api.OK {
				t.Errorf("Chord(%v, %d) = %v, error %d; want %v", numbers, fifths, l, e, want)
			}
		}
	}
}

func TestP9_3ChordExamples(t *testing.T) {
	for _, c := range []struct {
		numbers []int
		fifths  int
		want    []api.Pitch
	}{
		{[]int{64, 68, 71}, 0, []api.Pitch{of(2, 0, 4), of(4, 1, 4), of(6, 0, 4)}},
		{[]int{60, 64, 67}, 0, []api.Pitch{of(0, 0, 4), of(2, 0, 4), of(4, 0, 4)}},
		{[]int{61}, 0, []api.Pitch{of(0, 1, 4)}}, {[]int{61}, -5, []api.Pitch{of(1, -1, 4)}},
		{nil, 3, nil},
		// With G sharp or with A flat, the chord spans 8 places; in C major both are outside by 3, and G sharp has the smaller diatonic number.
		{[]int{60, 64, 68}, 0, []api.Pitch{of(0, 0, 4), of(2, 0, 4), of(4, 1, 4)}},
		{[]int{60, 64, 68}, -3, []api.Pitch{of(0, 0, 4), of(2, 0, 4), of(5, -1, 4)}},
	} {
		if l, e := spelling.Chord(c.numbers, c.fifths); !slices.Equal(l, c.want) || e != api.OK {
			t.Errorf("Chord(%v, %d) = %v, error %d; want %v", c.numbers, c.fifths, l, e, c.want)
		}
	}
}

func TestP9_3ChordErrors(t *testing.T) {
	long := []int{60, 61, 62, 63, 64, 65, 66, 67, 68, 69, 70}
	for _, c := range []struct {
		numbers []int
		e       api.Errno
	}{
		{long, api.ErrLimit}, {slices.Repeat([]int{-1}, 11), api.ErrLimit}, {make([]int, 2000), api.ErrLimit},
		{[]int{60, 60}, api.ErrOrder}, {[]int{60, 59}, api.ErrOrder}, {[]int{60, 64, 67, 66}, api.ErrOrder}, {make([]int, 10), api.ErrOrder},
		{[]int{60, 59, 128}, api.ErrRange}, {[]int{0, -1}, api.ErrRange}, {[]int{64, 60, -1}, api.ErrRange},
	} {
		if l, e := spelling.Chord(c.numbers, 0); len(l) != 0 || e != c.e {
			t.Errorf("Chord(%v, 0) = %v, error %d; want error %d", c.numbers, l, e, c.e)
		}
		for _, fifths := range wrongKeys {
			if l, e := spelling.Chord(c.numbers, fifths); len(l) != 0 || e != api.ErrRange {
				t.Errorf("Chord(%v, %d) = %v, error %d", c.numbers, fifths, l, e)
			}
		}
	}
	for _, n := range wrongNumbers {
		for _, numbers := range [][]int{{n}, {60, n}, {n, 60}} {
			if l, e := spelling.Chord(numbers, 0); len(l) != 0 || e != api.ErrRange {
				t.Errorf("Chord(%v, 0) = %v, error %d", numbers, l, e)
			}
		}
	}
}
