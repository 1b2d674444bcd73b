package accidental

import (
	"hemiola/api"
	"hemiola/key"
)

// Display returns the marks of the notes of a staff in a measure.
func Display(fifths int, notes []Note) ([]Mark, api.Errno) {
	marks, _, e := display(fifths, notes)
	return marks, e
}

// Carry returns the alterations that are in force after notes, for all staff positions.
func Carry(fifths int, notes []Note) ([Positions]int, api.Errno) {
	_, force, e := display(fifths, notes)
	return force, e
}

// display returns the marks of notes, and the alterations that are in force after them.
func display(fifths int, notes []Note) ([]Mark, [Positions]int, api.Errno) {
	force, e := signature(fifths)
	if e != api.OK {
		return nil, [Positions]int{}, e
	}
	if e := checkNotes(notes); e != api.OK {
		return nil, [Positions]int{}, e
	}
	marks := make([]Mark, len(notes))
	contradicted := contradictions(notes)
	for i, n := range notes {
		at := position(n)
		needed := contradicted[i] || !n.Held && n.Pitch.Alter != force[at]
		if needed || n.Show != api.ShowNeeded {
			kind, _ := Of(n.Pitch.Alter) // checkNotes has checked it
			marks[i] = Mark{Kind: kind, Parentheses: !needed && n.Show == api.ShowParentheses}
			force[at] = n.Pitch.Alter
		}
	}
	return marks, force, api.OK
}

// signature returns the alterations in force under a key signature before the first note.
func signature(fifths int) ([Positions]int, api.Errno) {
	var force [Positions]int
	for step := range steps {
		alter, e := key.Alter(fifths, step)
		if e != api.OK {
			return [Positions]int{}, e
		}
		for i := step; i < Positions; i += steps {
			force[i] = alter
		}
	}
	return force, api.OK
}

// checkNotes returns the first error of notes.
func checkNotes(notes []Note) api.Errno {
	if len(notes) > MaxNotes {
		return api.ErrLimit
	}
	last := 0 // the least tick that the next note may have
	for _, n := range notes {
		switch {
		case n.At < last:
			return api.ErrOrder
		case !isPosition(n.Pitch.Step, n.Pitch.Octave) || !isAlter(n.Pitch.Alter):
			return api.ErrPitch
		case n.Show < api.ShowNeeded || n.Show > api.ShowParentheses:
			return api.ErrKind
		}
		last = n.At
	}
	return api.OK
}

// position returns the index of the staff position of a note.
func position(n Note) int { return index(n.Pitch.Step, n.Pitch.Octave) }

// contradictions reports for each note whether another one at the same tick and staff position has another alteration.
func contradictions(notes []Note) []bool {
	out := make([]bool, len(notes))
next:
	for i, n := range notes {
		for j := i + 1; j < len(notes); j++ {
			m := notes[j]
			if m.At != n.At {
				continue next
			}
			if position(m) == position(n) && m.Pitch.Alter != n.Pitch.Alter {
				out[i], out[j] = true, true
			}
		}
	}
	return out
}
