package spelling

import "hemiola/api"

// spanCost is the cost of a chord for each place that it spans.
const spanCost = 100

// search looks for the best spelling of a chord: the tones of its notes, the best spelling so far, and its cost.
type search struct {
	notes [][]tone
	best  []api.Pitch
	cost  int
}

// Chord spells the notes of a chord, whose numbers increase, so that it spans few places on the line of fifths.
func Chord(numbers []int, fifths int) ([]api.Pitch, api.Errno) {
	notes, e := allTones(numbers, fifths, api.MaxHeads)
	if e != api.OK {
		return nil, e
	}
	for i := range numbers {
		if i > 0 && numbers[i] <= numbers[i-1] {
			return nil, api.ErrOrder
		}
	}
	s := search{notes: notes}
	s.extend(make([]tone, 0, len(notes)))
	return s.best, api.OK
}

// extend tries all spellings that begin with the chosen tones, the better ones of equal costs first.
func (s *search) extend(chosen []tone) {
	cost := costOf(chosen)
	// Further tones do not make it cheaper.
	if s.best != nil && cost >= s.cost {
		return
	}
	if len(chosen) == len(s.notes) {
		s.best, s.cost = pitches(chosen), cost
		return
	}
	for _, t := range s.notes[len(chosen)] {
		s.extend(append(chosen, t))
	}
}

// costOf returns the cost of the tones of a chord.
func costOf(tones []tone) int {
	if len(tones) == 0 {
		return 0
	}
	low, high, outside := tones[0].place, tones[0].place, 0
	for _, t := range tones {
		low, high, outside = min(low, t.place), max(high, t.place), outside+t.outside
	}
	return spanCost*(high-low) + Outside*outside
}

// pitches returns the pitches of tones.
func pitches(tones []tone) []api.Pitch {
	out := make([]api.Pitch, len(tones))
	for i, t := range tones {
		out[i] = t.pitch
	}
	return out
}
