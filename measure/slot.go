package measure

import (
	"slices"

	"hemiola/api"
	"hemiola/voice"
)

// Slot says where an event of a measure is, and from which tick to which it lasts.
type Slot struct{ Staff, Voice, Event, On, Off int }

// Slots returns the slots of all events, by staves, voices and onsets, and Columns the different onsets in increasing order.
func Slots(m api.Measure) ([]Slot, api.Errno) {
	length, e := Length(m)
	if e != api.OK {
		return nil, e
	}
	var slots []Slot
staves:
	for staff, c := range m.Cells {
		for k, v := range c.Voices {
			if !present(v) {
				continue
			}
			var ticks []int
			if ticks, e = voice.Onsets(v, length); e != api.OK {
				slots = nil
				break staves
			}
			ticks = append(ticks, length)
			for i := range v.Events {
				slots = append(slots, Slot{Staff: staff, Voice: k, Event: i, On: ticks[i], Off: ticks[i+1]})
			}
		}
	}
	return slots, e
}

func Columns(m api.Measure) ([]int, api.Errno) {
	slots, e := Slots(m)
	var onsets []int
	for _, s := range slots {
		onsets = append(onsets, s.On)
	}
	slices.Sort(onsets)
	return slices.Compact(onsets), e
}

// At returns the slot of the event of a voice that lasts at a tick.
func At(m api.Measure, staff, voice, tick int) (Slot, api.Errno) {
	length, e := Length(m)
	if e != api.OK {
		return Slot{}, e
	}
	if !hasVoice(m, staff, voice) {
		return Slot{}, api.ErrRange
	}
	s, e := lasting(m.Cells[staff].Voices[voice], length, tick)
	if e != api.OK {
		return Slot{}, e
	}
	s.Staff, s.Voice = staff, voice
	return s, api.OK
}

// lasting returns the slot of the event of a voice that lasts at a tick; its staff and its voice are zero.
func lasting(v api.Voice, length, tick int) (Slot, api.Errno) {
	i, onset, e := voice.At(v, length, tick)
	if e != api.OK {
		return Slot{}, e
	}
	lengths, _ := voice.Lengths(v, length) // At has checked it
	return Slot{Event: i, On: onset, Off: onset + lengths[i]}, api.OK
}

// Find returns the slot of the first event with an id.
func Find(m api.Measure, id api.ID) (Slot, bool) {
	if id == (api.ID{}) {
		return Slot{}, false
	}
	slots, _ := Slots(m) // with an error, there are none
	for _, s := range slots {
		if m.Cells[s.Staff].Voices[s.Voice].Events[s.Event].ID == id {
			return s, true
		}
	}
	return Slot{}, false
}
