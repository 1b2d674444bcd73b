package accidental

import "hemiola/api"

// Read returns the alterations of notes that are displayed in some way.
func Read(fifths int, places []Place) ([]int, api.Errno) {
	force, e := signature(fifths)
	if e != api.OK {
		return nil, e
	}
	if e := checkPlaces(places); e != api.OK {
		return nil, e
	}
	out := make([]int, len(places))
	for i, p := range places {
		at := index(p.Step, p.Octave)
		alter, e := Alter(p.Mark.Kind)
		switch {
		case e == api.OK:
			out[i], force[at] = alter, alter
		case p.Held:
			out[i] = p.Before
		default:
			out[i] = force[at]
		}
	}
	return out, api.OK
}

// checkPlaces returns the first error of places.
func checkPlaces(places []Place) api.Errno {
	if len(places) > MaxNotes {
		return api.ErrLimit
	}
	last := 0 // the least tick that the next place may have
	for _, p := range places {
		switch {
		case p.At < last:
			return api.ErrOrder
		case !isPosition(p.Step, p.Octave):
			return api.ErrPitch
		case !isKind(p.Mark.Kind):
			return api.ErrKind
		case p.Held && !isAlter(p.Before):
			return api.ErrRange
		}
		last = p.At
	}
	return api.OK
}
