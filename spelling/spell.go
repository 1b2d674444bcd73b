package spelling

import (
	"slices"

	"hemiola/api"
)

// choice is a tone that a note can have, with the least cost of this note and all later ones, and the index of the choice for the next note that leads to it.
type choice struct {
	tone
	cost, next int
}

// Spell returns the pitches with given semitone numbers that have the least cost in a key.
func Spell(numbers []int, fifths int) ([]api.Pitch, api.Errno) {
	notes, e := allTones(numbers, fifths, MaxNotes)
	if e != api.OK {
		return nil, e
	}
	// The table begins with the last note: so the first note, which decides between equal costs, is chosen first when the choices are followed back.
	table := make([][]choice, 0, len(notes))
	var later []choice
	for _, tones := range slices.Backward(notes) {
		later = choices(tones, later)
		table = append(table, later)
	}
	first, _ := cheapest(later, func(c choice) int { return c.cost })
	return follow(table, first), api.OK
}

// choices returns the choices for a note, given those for the next one.
func choices(tones []tone, later []choice) []choice {
	out := make([]choice, len(tones))
	for i, t := range tones {
		next, cost := cheapest(later, func(c choice) int { return c.cost + Distance*distance(t, c.tone) })
		out[i] = choice{tone: t, cost: cost + Outside*t.outside, next: next}
	}
	return out
}

// cheapest returns the index of the first choice with the least cost, and this cost; they are 0 if there are no choices.
func cheapest(l []choice, cost func(choice) int) (at, least int) {
	for i, c := range l {
		if n := cost(c); i == 0 || n < least {
			at, least = i, n
		}
	}
	return at, least
}

// follow returns the pitches that are chosen in a table, from its end back, where the choice with an index begins.
func follow(table [][]choice, at int) []api.Pitch {
	out := make([]api.Pitch, 0, len(table))
	for _, row := range slices.Backward(table) {
		out = append(out, row[at].pitch)
		at = row[at].next
	}
	return out
}
