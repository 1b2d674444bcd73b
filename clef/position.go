package clef

import (
	"hemiola/api"
	"hemiola/key"
	"hemiola/pitch"
)

// steps is the number of steps of an octave, and ledger the position of the first ledger line above a staff.
const (
	steps  = 7
	ledger = 6
)

// Position returns the staff position of a pitch: 0 is the middle line, 1 the space above it.
func Position(clef int, p api.Pitch) (int, api.Errno) {
	if e := Check(clef); e != api.OK {
		return 0, e
	}
	diatonic, e := pitch.Diatonic(p)
	if e != api.OK {
		return 0, e
	}
	return diatonic - signs[clef-1].middle, api.OK
}

// At returns the pitch without alteration at a staff position.
func At(clef, position int) (api.Pitch, api.Errno) {
	if e := Check(clef); e != api.OK {
		return api.Pitch{}, e
	}
	// All pitches are nearer than MaxPosition; without this limit, the sum could overflow.
	if !near(position) {
		return api.Pitch{}, api.ErrRange
	}
	p, e := pitch.Of(position+signs[clef-1].middle, 0)
	if e != api.OK {
		return api.Pitch{}, api.ErrRange
	}
	return p, api.OK
}

// near reports whether a position is at most MaxPosition away from the middle line.
func near(position int) bool { return position >= -MaxPosition && position <= MaxPosition }

// Ledger returns the staff positions of the ledger lines of a position, those next to the staff first.
func Ledger(position int) []int {
	if !near(position) {
		return nil
	}
	side := 1
	if position < 0 {
		side = -1
	}
	var out []int
	for line := ledger; line <= side*position; line += 2 {
		out = append(out, side*line)
	}
	return out
}

// Signature returns the staff positions of the accidentals of a key signature, in order.
func Signature(clef, fifths int) ([]int, api.Errno) {
	if e := Check(clef); e != api.OK {
		return nil, e
	}
	altered, e := key.Signature(fifths)
	if e != api.OK {
		return nil, e
	}
	s := signs[clef-1]
	lowest := s.sharps
	if fifths < 0 {
		lowest = s.flats
	}
	out := make([]int, len(altered))
	for i, step := range altered {
		out[i] = lowest + up(lowest+s.middle, step)
	}
	return out, api.OK
}

// up returns how many steps it is from a diatonic number up to the next step of a kind, from 0 to 6.
func up(diatonic, step int) int { return ((step-diatonic)%steps + steps) % steps }

// Best returns the clef that needs the fewest ledger lines for pitches.
func Best(clefs []int, l []api.Pitch) (int, api.Errno) {
	if e := checkAll(clefs, l); e != api.OK {
		return 0, e
	}
	best, least := 0, 0
	var known [NumClefs + 1]bool
	for _, c := range clefs {
		if known[c] {
			continue
		}
		known[c] = true
		if n := ledgers(c, l); best == 0 || n < least {
			best, least = c, n
		}
	}
	return best, api.OK
}

// checkAll returns the first error of the arguments of Best.
func checkAll(clefs []int, l []api.Pitch) api.Errno {
	if len(clefs) == 0 {
		return api.ErrShort
	}
	for _, c := range clefs {
		if e := Check(c); e != api.OK {
			return e
		}
	}
	for _, p := range l {
		if e := pitch.Check(p); e != api.OK {
			return e
		}
	}
	return api.OK
}

// ledgers returns how many ledger lines pitches need with a clef.
func ledgers(clef int, l []api.Pitch) int {
	n := 0
	for _, p := range l {
		position, _ := Position(clef, p) // Best has checked both
		n += len(Ledger(position))
	}
	return n
}
