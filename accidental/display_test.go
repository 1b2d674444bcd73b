package accidental_test

import (
	"math"
	"slices"
	"testing"

	"hemiola/accidental"
	"hemiola/api"
)

// note returns a note that is not held and shows an accidental if it needs one.
func note(at, step, alter, octave int) accidental.Note {
	return accidental.Note{At: at, Pitch: api.Pitch{Step: step, Alter: alter, Octave: octave}}
}

// signatureOf returns the alteration of a step under a key signature.
func signatureOf(fifths, step int) int {
	place := slices.Index([]int{3, 0, 4, 1, 5, 2, 6}, step)
	switch {
	case place < fifths:
		return 1
	case 6-place < -fifths:
		return -1
	}
	return 0
}

func samePosition(a, b accidental.Note) bool {
	return a.Pitch.Step == b.Pitch.Step && a.Pitch.Octave == b.Pitch.Octave
}

// marksOf returns the marks of notes as the chapter defines them.
func marksOf(fifths int, notes []accidental.Note) []accidental.Mark {
	marks := make([]accidental.Mark, len(notes))
	for i, n := range notes {
		force := signatureOf(fifths, n.Pitch.Step)
		for j := i - 1; j >= 0; j-- {
			if samePosition(notes[j], n) && marks[j].Kind != 0 {
				force = notes[j].Pitch.Alter
				break
			}
		}
		needs := !n.Held && n.Pitch.Alter != force
		for _, m := range notes {
			needs = needs || m.At == n.At && samePosition(m, n) && m.Pitch.Alter != n.Pitch.Alter
		}
		if needs || n.Show != 0 {
			marks[i] = accidental.Mark{Kind: n.Pitch.Alter + 3, Parentheses: !needs && n.Show == 2}
		}
	}
	return marks
}

// carryOf returns the alterations in force after notes with marks.
func carryOf(fifths int, notes []accidental.Note, marks []accidental.Mark) [77]int {
	var out [77]int
	for i := range out {
		out[i] = signatureOf(fifths, i%7)
		for j, n := range notes {
			if 7*(n.Pitch.Octave+1)+n.Pitch.Step == i && marks[j].Kind != 0 {
				out[i] = n.Pitch.Alter
			}
		}
	}
	return out
}

// small yields all lists of at most three notes at a staff position, at two ticks.
func small(step int, yield func([]accidental.Note)) {
	var choices []accidental.Note
	for at := range 2 {
		for alter := -1; alter <= 1; alter++ {
			for show := range 3 {
				for _, held := range []bool{false, true} {
					n := note(at, step, alter, 4)
					n.Held, n.Show = held, show
					choices = append(choices, n)
				}
			}
		}
	}
	yield(nil)
	for _, a := range choices {
		yield([]accidental.Note{a})
		for _, b := range choices {
			if b.At < a.At {
				continue
			}
			yield([]accidental.Note{a, b})
			for _, c := range choices {
				if c.At >= b.At {
					yield([]accidental.Note{a, b, c})
				}
			}
		}
	}
}

// random returns lists of notes at few ticks and staff positions.
func random(lists int) [][]accidental.Note {
	seed := uint32(9)
	next := func(n int) int {
		seed = seed*1664525 + 1013904223
		return int(seed>>12) % n
	}
	out := make([][]accidental.Note, lists)
	for i := range out {
		at, step, octave := 0, next(7), next(9)-1
		for range next(30) {
			at += next(3) / 2 * 120960
			n := note(at, (step+next(2))%7, next(5)-2, octave+next(2))
			n.Held, n.Show = next(4) == 0, max(0, next(6)-3)
			out[i] = append(out[i], n)
		}
	}
	return out
}

func testDisplay(t *testing.T, fifths int, notes []accidental.Note) {
	kept := slices.Clone(notes)
	want := marksOf(fifths, notes)
	marks, e := accidental.Display(fifths, notes)
	if !slices.Equal(marks, want) || e != api.OK {
		t.Fatalf("Display(%d, %v) = %v, error %d; want %v", fifths, notes, marks, e, want)
	}
	if force, e := accidental.Carry(fifths, notes); force != carryOf(fifths, notes, want) || e != api.OK {
		t.Fatalf("Carry(%d, %v) = %v, error %d; want %v", fifths, notes, force, e, carryOf(fifths, notes, want))
	}
	if !slices.Equal(notes, kept) {
		t.Fatalf("a function changes its argument %v to %v", kept, notes)
	}
}

func TestP10_1SmallLists(t *testing.T) {
	for _, c := range []struct{ fifths, step int }{{0, 0}, {1, 3}, {-7, 3}} {
		small(c.step, func(notes []accidental.Note) { testDisplay(t, c.fifths, notes) })
	}
}

func TestP10_1RandomLists(t *testing.T) {
	for i, notes := range random(3000) {
		testDisplay(t, i%15-7, notes)
	}
}

func TestP10_1Examples(t *testing.T) {
	held, shown, doubted := note(0, 3, 1, 4), note(4, 3, 1, 4), note(4, 3, 1, 4)
	held.Held, shown.Show, doubted.Show = true, api.ShowAlways, api.ShowParentheses
	heldNatural, heldShown := note(0, 3, 0, 4), held
	heldNatural.Held, heldShown.Show = true, api.ShowAlways
	none, flat, natural, sharp := accidental.Mark{}, accidental.Mark{Kind: 2}, accidental.Mark{Kind: 3}, accidental.Mark{Kind: 4}
	for _, c := range []struct {
		fifths int
		notes  []accidental.Note
		want   []accidental.Mark
	}{
		{-1, []accidental.Note{note(0, 6, -1, 4), note(1, 6, 0, 4), note(2, 6, 0, 4), note(3, 6, -1, 4)}, []accidental.Mark{none, natural, none, flat}},
		{-1, []accidental.Note{note(0, 5, -1, 4), note(1, 5, -1, 5), note(2, 5, -1, 4)}, []accidental.Mark{flat, flat, none}},
		{0, []accidental.Note{held, note(4, 3, 1, 4), note(8, 3, 1, 4)}, []accidental.Mark{none, sharp, none}},
		{0, []accidental.Note{held, note(4, 3, 0, 4)}, []accidental.Mark{none, none}},
		{0, []accidental.Note{heldShown, note(4, 3, 1, 4), note(8, 3, 0, 4)}, []accidental.Mark{sharp, none, natural}},
		{0, []accidental.Note{note(0, 0, 0, 4), note(0, 0, 1, 4)}, []accidental.Mark{natural, sharp}},
		{0, []accidental.Note{note(0, 0, 1, 4), note(0, 0, 1, 4)}, []accidental.Mark{sharp, none}},
		// A held note has a mark beside another alteration; others at the same tick or at other ones do not matter.
		{0, []accidental.Note{heldNatural, note(0, 0, 1, 4), note(0, 3, 1, 4), note(1, 3, 1, 4)}, []accidental.Mark{natural, sharp, sharp, none}},
		{0, []accidental.Note{note(0, 0, 0, 4), note(0, 0, 1, 5), note(1, 0, 1, 4)}, []accidental.Mark{none, sharp, sharp}},
		{1, []accidental.Note{shown}, []accidental.Mark{sharp}}, {0, []accidental.Note{shown}, []accidental.Mark{sharp}},
		{1, []accidental.Note{doubted}, []accidental.Mark{{Kind: 4, Parentheses: true}}}, {0, []accidental.Note{doubted}, []accidental.Mark{sharp}},
		{-7, []accidental.Note{note(0, 0, -2, 4), note(0, 1, 2, 4)}, []accidental.Mark{{Kind: 1}, {Kind: 5}}},
		{0, nil, nil},
	} {
		if marks, e := accidental.Display(c.fifths, c.notes); !slices.Equal(marks, c.want) || e != api.OK {
			t.Errorf("Display(%d, %v) = %v, error %d; want %v", c.fifths, c.notes, marks, e, c.want)
		}
	}
}

func TestP10_3Carry(t *testing.T) {
	for fifths := -7; fifths <= 7; fifths++ {
		force, e := accidental.Carry(fifths, nil)
		for i, alter := range force {
			if alter != signatureOf(fifths, i%7) || e != api.OK {
				t.Errorf("Carry(%d, nil) = %v, error %d", fifths, force, e)
			}
		}
	}
	held := note(0, 3, 2, 4)
	held.Held = true
	force, e := accidental.Carry(2, []accidental.Note{held, note(1, 0, -2, -1), note(1, 6, 1, 9), note(2, 0, 1, 4), note(2, 0, 0, 4), note(3, 1, 0, 4)})
	if e != api.OK || force[0] != -2 || force[76] != 1 || force[35] != 0 || force[38] != 1 || force[36] != 0 || force[7] != 1 {
		t.Errorf("Carry = %v, error %d", force, e)
	}
}

// bad is a list of notes with its first error.
type bad struct {
	notes []accidental.Note
	e     api.Errno
}

// badLists returns lists with errors.
func badLists() []bad {
	good := note(5, 0, 0, 4)
	long := make([]accidental.Note, 2561)
	longBad := slices.Clone(long)
	longBad[0].At = -1
	last := slices.Clone(long[:2560])
	last[2559].Show = 3
	out := []bad{
		{long, api.ErrLimit}, {longBad, api.ErrLimit}, {last, api.ErrKind},
		{[]accidental.Note{note(-1, 9, 9, 9)}, api.ErrOrder}, {[]accidental.Note{note(math.MinInt, 0, 0, 4)}, api.ErrOrder},
		{[]accidental.Note{good, note(4, 0, 3, 4)}, api.ErrOrder}, {[]accidental.Note{good, note(4, 0, 3, 4), note(3, 0, 0, 4)}, api.ErrOrder},
		{[]accidental.Note{good, note(5, 0, 3, 4), note(3, 0, 0, 4)}, api.ErrPitch}, {[]accidental.Note{good, note(math.MaxInt, 7, 0, 4)}, api.ErrPitch},
	}
	for _, p := range [][3]int{{-1, 0, 4}, {7, 0, 4}, {0, -3, 4}, {0, 3, 4}, {0, 0, -2}, {0, 0, 10}, {math.MaxInt, 0, 4}, {0, math.MinInt, 4}, {0, 0, math.MaxInt}} {
		n := note(5, p[0], p[1], p[2])
		n.Show = 3
		out = append(out, bad{[]accidental.Note{n}, api.ErrPitch}, bad{[]accidental.Note{good, n}, api.ErrPitch})
	}
	for _, show := range []int{-1, 3, math.MinInt, math.MaxInt} {
		n := good
		n.Show = show
		out = append(out, bad{[]accidental.Note{n}, api.ErrKind}, bad{[]accidental.Note{good, n, note(0, 7, 0, 4)}, api.ErrKind})
	}
	return out
}

func TestP10_1DisplayErrors(t *testing.T) {
	for _, c := range badLists() {
		if marks, e := accidental.Display(0, c.notes); len(marks) != 0 || e != c.e {
			t.Errorf("Display of %d notes has %d marks, error %d; want error %d", len(c.notes), len(marks), e, c.e)
		}
		for _, fifths := range wrongKeys {
			if marks, e := accidental.Display(fifths, c.notes); len(marks) != 0 || e != api.ErrRange {
				t.Errorf("Display in %d has %d marks, error %d", fifths, len(marks), e)
			}
		}
	}
	for _, fifths := range wrongKeys {
		if marks, e := accidental.Display(fifths, nil); len(marks) != 0 || e != api.ErrRange {
			t.Errorf("Display in %d has %d marks, error %d", fifths, len(marks), e)
		}
	}
}

func TestP10_3CarryErrors(t *testing.T) {
	for _, c := range badLists() {
		if force, e := accidental.Carry(7, c.notes); force != [77]int{} || e != c.e {
			t.Errorf("Carry of %d notes = %v, error %d; want error %d", len(c.notes), force, e, c.e)
		}
		for _, fifths := range wrongKeys {
			if force, e := accidental.Carry(fifths, c.notes); force != [77]int{} || e != api.ErrRange {
				t.Errorf("Carry in %d = %v, error %d", fifths, force, e)
			}
		}
	}
}

// TestP10_1Limits tests the greatest number of notes, and pitches beyond the numbers that sound.
func TestP10_1Limits(t *testing.T) {
	marks, e := accidental.Display(0, slices.Repeat([]accidental.Note{note(0, 0, 1, 4)}, 2560))
	if len(marks) != 2560 || marks[0].Kind != 4 || marks[2559].Kind != 0 || e != api.OK {
		t.Errorf("Display of 2560 notes has %d marks, error %d", len(marks), e)
	}
	if marks, e := accidental.Display(0, []accidental.Note{note(0, 0, -2, -1), note(math.MaxInt, 6, 2, 9)}); !slices.Equal(marks, []accidental.Mark{{Kind: 1}, {Kind: 5}}) || e != api.OK {
		t.Errorf("Display = %v, error %d", marks, e)
	}
}
