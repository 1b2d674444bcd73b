package accidental_test

import (
	"math"
	"slices"
	"testing"

	"hemiola/accidental"
	"hemiola/api"
)

// place returns a place that is not held.
func place(at, step, octave, kind int) accidental.Place {
	return accidental.Place{At: at, Step: step, Octave: octave, Mark: accidental.Mark{Kind: kind}}
}

// placesOf returns what is visible of notes with marks.
func placesOf(notes []accidental.Note, marks []accidental.Mark) []accidental.Place {
	out := make([]accidental.Place, len(notes))
	for i, n := range notes {
		out[i] = accidental.Place{At: n.At, Step: n.Pitch.Step, Octave: n.Pitch.Octave, Mark: marks[i], Held: n.Held}
		if n.Held {
			out[i].Before = n.Pitch.Alter
		}
	}
	return out
}

// readOf returns the alterations of places as the chapter defines them.
func readOf(fifths int, places []accidental.Place) []int {
	out := make([]int, len(places))
	for i, p := range places {
		switch {
		case p.Mark.Kind != 0:
			out[i] = p.Mark.Kind - 3
		case p.Held:
			out[i] = p.Before
		default:
			out[i] = signatureOf(fifths, p.Step)
			for _, q := range places[:i] {
				if q.Step == p.Step && q.Octave == p.Octave && q.Mark.Kind != 0 {
					out[i] = q.Mark.Kind - 3
				}
			}
		}
	}
	return out
}

func TestP10_2Read(t *testing.T) {
	for i, notes := range random(3000) {
		fifths := i%15 - 7
		marks := make([]accidental.Mark, len(notes))
		for j, n := range notes {
			marks[j] = accidental.Mark{Kind: (n.Pitch.Alter + 3) * n.Show % 6, Parentheses: n.Show == 1}
		}
		places := placesOf(notes, marks)
		kept := slices.Clone(places)
		if l, e := accidental.Read(fifths, places); !slices.Equal(l, readOf(fifths, places)) || e != api.OK || !slices.Equal(places, kept) {
			t.Fatalf("Read(%d, %v) = %v, error %d; want %v", fifths, kept, l, e, readOf(fifths, kept))
		}
	}
}

func TestP10_2ReadExamples(t *testing.T) {
	held := accidental.Place{At: 0, Step: 3, Octave: 4, Held: true, Before: 1}
	heldMarked := held
	heldMarked.Mark, heldMarked.Before = accidental.Mark{Kind: accidental.Flat, Parentheses: true}, 2
	loose := place(1, 3, 4, 0)
	loose.Before = 9 // it has a meaning only for a held note
	for _, c := range []struct {
		fifths int
		places []accidental.Place
		want   []int
	}{
		{-1, []accidental.Place{place(0, 6, 4, 0), place(1, 6, 4, 3), place(2, 6, 4, 0), place(3, 6, 4, 2), place(3, 6, 5, 0)}, []int{-1, 0, 0, -1, -1}},
		{0, []accidental.Place{held, place(1, 3, 4, 0), place(2, 3, 4, 4), place(3, 3, 4, 0)}, []int{1, 0, 1, 1}},
		{0, []accidental.Place{heldMarked, place(1, 3, 4, 0)}, []int{-1, -1}},
		{0, []accidental.Place{place(0, 0, 4, 3), place(0, 0, 4, 4), place(0, 0, 4, 0)}, []int{0, 1, 1}},
		{7, []accidental.Place{place(0, 0, -1, 0), place(0, 6, 9, 5), place(1, 6, 9, 0), loose}, []int{1, 2, 2, 1}},
		{2, nil, nil},
	} {
		if l, e := accidental.Read(c.fifths, c.places); !slices.Equal(l, c.want) || e != api.OK {
			t.Errorf("Read(%d, %v) = %v, error %d; want %v", c.fifths, c.places, l, e, c.want)
		}
	}
}

func TestP10_2ReadErrors(t *testing.T) {
	good := place(5, 0, 4, 0)
	held := func(before int) accidental.Place { return accidental.Place{At: 5, Held: true, Before: before} }
	all := place(4, 7, 10, 6)
	all.Held, all.Before = true, 3
	noPitch, noKind := all, all
	noPitch.At = 5
	noKind.At, noKind.Step, noKind.Octave = 5, 6, 9
	long := make([]accidental.Place, 2561)
	longBad := slices.Clone(long)
	longBad[0] = all
	for _, c := range []struct {
		places []accidental.Place
		e      api.Errno
	}{
		{long, api.ErrLimit}, {longBad, api.ErrLimit},
		{[]accidental.Place{place(-1, 7, 4, 6)}, api.ErrOrder}, {[]accidental.Place{good, all}, api.ErrOrder}, {[]accidental.Place{place(math.MinInt, 0, 4, 0)}, api.ErrOrder},
		{[]accidental.Place{good, noPitch}, api.ErrPitch}, {[]accidental.Place{good, noPitch, all}, api.ErrPitch}, {[]accidental.Place{good, noKind}, api.ErrKind},
		{[]accidental.Place{place(0, -1, 4, 0)}, api.ErrPitch}, {[]accidental.Place{place(0, 7, 4, 0)}, api.ErrPitch}, {[]accidental.Place{place(0, 0, -2, 0)}, api.ErrPitch},
		{[]accidental.Place{place(0, 0, 10, 0)}, api.ErrPitch}, {[]accidental.Place{place(0, math.MinInt, 4, 0)}, api.ErrPitch}, {[]accidental.Place{place(0, 0, math.MaxInt, 0)}, api.ErrPitch},
		{[]accidental.Place{place(0, 0, 4, -1)}, api.ErrKind}, {[]accidental.Place{place(0, 0, 4, 6)}, api.ErrKind}, {[]accidental.Place{place(0, 0, 4, math.MinInt)}, api.ErrKind},
		{[]accidental.Place{held(-3)}, api.ErrRange}, {[]accidental.Place{good, held(3), all}, api.ErrRange}, {[]accidental.Place{held(math.MaxInt)}, api.ErrRange}, {[]accidental.Place{held(2), held(math.MinInt)}, api.ErrRange},
		{[]accidental.Place{{Held: true, Before: 3, Mark: accidental.Mark{Kind: 4}}}, api.ErrRange},
	} {
		if l, e := accidental.Read(0, c.places); len(l) != 0 || e != c.e {
			t.Errorf("Read of %d places has %d alterations, error %d; want error %d", len(c.places), len(l), e, c.e)
		}
		for _, fifths := range wrongKeys {
			if l, e := accidental.Read(fifths, c.places); len(l) != 0 || e != api.ErrRange {
				t.Errorf("Read in %d has %d alterations, error %d", fifths, len(l), e)
			}
		}
	}
	if l, e := accidental.Read(0, long[:2560]); len(l) != 2560 || e != api.OK {
		t.Errorf("Read of 2560 places has %d alterations, error %d", len(l), e)
	}
}

// testReadBack tests that Read leads back from Display, and that marks which the alteration in force requires cannot be left out.
func testReadBack(t *testing.T, fifths int, notes []accidental.Note) {
	marks, _ := accidental.Display(fifths, notes)
	places := placesOf(notes, marks)
	l, e := accidental.Read(fifths, places)
	if e != api.OK || len(l) != len(notes) {
		t.Fatalf("Read(%d, %v) = %v, error %d", fifths, places, l, e)
	}
	for i, n := range notes {
		if l[i] != n.Pitch.Alter {
			t.Fatalf("Read(%d, %v) = %v", fifths, places, l)
		}
		force, _ := accidental.Carry(fifths, notes[:i])
		before, _ := accidental.Read(fifths, append(placesOf(notes[:i], marks), place(n.At, n.Pitch.Step, n.Pitch.Octave, 0)))
		if index := 7*(n.Pitch.Octave+1) + n.Pitch.Step; !contradicted(notes[:i], n.At) && force[index] != before[i] {
			t.Fatalf("%v: %d is in force before the note %d, and %d is read", notes, force[index], i, before[i])
		}
		if !n.Held && before[i] != n.Pitch.Alter && marks[i].Kind == 0 {
			t.Fatalf("%v: the mark of the note %d is missing", notes, i)
		}
	}
}

// contradicted reports whether notes before a tick can have marks because of later notes at the same tick.
func contradicted(notes []accidental.Note, at int) bool {
	return len(notes) > 0 && notes[len(notes)-1].At == at
}

func TestP10_5ReadBack(t *testing.T) {
	small(3, func(notes []accidental.Note) { testReadBack(t, 1, notes) })
	for i, notes := range random(1500) {
		testReadBack(t, i%15-7, notes)
	}
}

// TestP10_5NeededMarks tests that Read returns another alteration without a mark that the alteration in force requires.
func TestP10_5NeededMarks(t *testing.T) {
	left := 0
	for i, notes := range random(1500) {
		fifths := i%15 - 7
		marks := marksOf(fifths, notes)
		for j, n := range notes {
			before := placesOf(notes[:j], marks)
			force := readOf(fifths, append(before, place(n.At, n.Pitch.Step, n.Pitch.Octave, 0)))[j]
			if n.Held || n.Pitch.Alter == force {
				continue
			}
			places := placesOf(notes, marks)
			places[j].Mark = accidental.Mark{}
			if l, e := accidental.Read(fifths, places); e != api.OK || l[j] == n.Pitch.Alter {
				t.Fatalf("Read(%d, %v) = %v, error %d, without the mark of %d", fifths, places, l, e, j)
			}
			left++
		}
	}
	if left < 1000 {
		t.Errorf("only %d marks are needed", left)
	}
}

func TestP10_5NotesOfTheScale(t *testing.T) {
	for fifths := -7; fifths <= 7; fifths++ {
		var notes []accidental.Note
		for i := range 500 {
			step := i * 5 % 7
			notes = append(notes, accidental.Note{At: i / 3, Pitch: api.Pitch{Step: step, Alter: signatureOf(fifths, step), Octave: i%11 - 1}, Held: i%4 == 0})
		}
		marks, e := accidental.Display(fifths, notes)
		if e != api.OK || len(marks) != len(notes) || slices.ContainsFunc(marks, func(m accidental.Mark) bool { return m != accidental.Mark{} }) {
			t.Errorf("the scale of %d has marks: %v, error %d", fifths, marks, e)
		}
	}
}

// TestP10_5LaterTicks tests that what is displayed up to a tick does not depend on notes with greater ticks.
func TestP10_5LaterTicks(t *testing.T) {
	for i, notes := range random(1500) {
		fifths := i%15 - 7
		marks, _ := accidental.Display(fifths, notes)
		for j := 1; j < len(notes); j++ {
			if notes[j].At == notes[j-1].At {
				continue
			}
			if l, e := accidental.Display(fifths, notes[:j]); !slices.Equal(l, marks[:j]) || e != api.OK {
				t.Fatalf("Display(%d, %v) = %v, error %d; want %v", fifths, notes[:j], l, e, marks[:j])
			}
		}
	}
}
