package spelling_test

import (
	"slices"
	"testing"

	"hemiola/api"
	"hemiola/spelling"
)

func TestP9_2SpellPairs(t *testing.T) {
	tied := 0
	for fifths := -7; fifths <= 7; fifths++ {
		for a := range 128 {
			for _, b := range []int{0, 1, a, 127 - a, (a + 1) % 128, (a + 3) % 128, (a + 6) % 128, 61, 68, 127} {
				numbers := []int{a, b}
				want, equal := bestOf(numbers, fifths, costOf)
				if equal {
					tied++
				}
				if l, e := spelling.Spell(numbers, fifths); !slices.Equal(l, want) || e != api.OK {
					t.Fatalf("Spell(%v, %d) = %v, error %d; want %v", numbers, fifths, l, e, want)
				}
			}
		}
	}
	if tied < 100 {
		t.Errorf("only %d lists have several spellings with the least cost", tied)
	}
}

func TestP9_2Spell(t *testing.T) {
	next := random(3)
	tied := 0
	for range 3000 {
		fifths := next(15) - 7
		low, width := next(100), 1+next(28)
		numbers := make([]int, next(7))
		for i := range numbers {
			numbers[i] = low + next(width)
		}
		kept := slices.Clone(numbers)
		want, equal := bestOf(numbers, fifths, costOf)
		if equal {
			tied++
		}
		l, e := spelling.Spell(numbers, fifths)
		if !slices.Equal(l, want) || e != api.OK || !slices.Equal(numbers, kept) {
			t.Fatalf("Spell(%v, %d) = %v, error %d; want %v", kept, fifths, l, e, want)
		}
		clear(l)
		if again, _ := spelling.Spell(numbers, fifths); !slices.Equal(again, want) {
			t.Fatalf("a change of Spell(%v, %d) changes the next one", kept, fifths)
		}
	}
	if tied < 20 {
		t.Errorf("only %d lists have several spellings with the least cost", tied)
	}
}

func TestP9_2SpellExamples(t *testing.T) {
	for _, c := range []struct {
		numbers []int
		fifths  int
		want    []api.Pitch
	}{
		{[]int{60, 61, 62}, 0, []api.Pitch{of(0, 0, 4), of(0, 1, 4), of(1, 0, 4)}},
		{[]int{60, 61, 62}, -5, []api.Pitch{of(0, 0, 4), of(1, -1, 4), of(1, 0, 4)}},
		{[]int{61}, 0, []api.Pitch{of(0, 1, 4)}}, {nil, 0, nil}, {[]int{}, -7, nil},
		// G sharp and A flat are both outside C major by 3 places; G sharp has the smaller diatonic number.
		{[]int{68}, 0, []api.Pitch{of(4, 1, 4)}},
		{[]int{0}, 7, []api.Pitch{of(0, 0, -1)}}, {[]int{127}, 0, []api.Pitch{of(4, 0, 9)}},
	} {
		if l, e := spelling.Spell(c.numbers, c.fifths); !slices.Equal(l, c.want) || e != api.OK {
			t.Errorf("Spell(%v, %d) = %v, error %d; want %v", c.numbers, c.fifths, l, e, c.want)
		}
	}
}

func TestP9_2SpellErrors(t *testing.T) {
	long := make([]int, 1025)
	for _, n := range wrongNumbers {
		for _, l := range [][]int{{n}, {60, n}, {n, 60}, append(slices.Repeat([]int{64}, 1023), n)} {
			if p, e := spelling.Spell(l, 0); len(p) != 0 || e != api.ErrRange {
				t.Errorf("Spell with %d = %v, error %d", n, p, e)
			}
		}
		long[1024] = n
		if p, e := spelling.Spell(long, 0); len(p) != 0 || e != api.ErrLimit {
			t.Errorf("Spell of 1025 numbers = %v, error %d", p, e)
		}
	}
	for _, fifths := range wrongKeys {
		for _, l := range [][]int{nil, {60}, {-1}, long} {
			if p, e := spelling.Spell(l, fifths); len(p) != 0 || e != api.ErrRange {
				t.Errorf("Spell of %d numbers in %d = %v, error %d", len(l), fifths, p, e)
			}
		}
	}
}

// TestP9_5LongLists tests that pitches of long lists have their numbers, and that no change of one or two neighbours makes them cheaper.
func TestP9_5LongLists(t *testing.T) {
	known := byNumber()
	next := random(11)
	for _, fifths := range []int{-7, -2, 0, 5, 7} {
		numbers := make([]int, 1024)
		for i := range numbers {
			numbers[i] = 30 + next(70)
		}
		l, e := spelling.Spell(numbers, fifths)
		if len(l) != len(numbers) || e != api.OK {
			t.Fatalf("Spell of 1024 numbers has %d pitches, error %d", len(l), e)
		}
		least := costOf(l, fifths)
		for i, n := range numbers {
			if !slices.Contains(known[n], l[i]) {
				t.Fatalf("%d is spelled %v", n, l[i])
			}
			changed := slices.Clone(l)
			for _, changed[i] = range known[n] {
				changed[(i+1)%len(l)] = l[(i+1)%len(l)]
				if costOf(changed, fifths) < least {
					t.Fatalf("the note %d can be changed", i)
				}
				for _, changed[(i+1)%len(l)] = range known[numbers[(i+1)%len(l)]] {
					if costOf(changed, fifths) < least {
						t.Fatalf("the notes from %d on can be changed", i)
					}
				}
			}
		}
	}
}
