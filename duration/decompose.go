package duration

import "hemiola/api"

const (
	// shortest is the duration of the shortest note value, and grain a divisor of all durations.
	shortest = api.Whole / 256
	grain    = api.Whole / 2048
)

// Decompose returns the fewest note values that last as long together, the longest ones first.
func Decompose(ticks int) ([]api.Value, api.Errno) {
	if ticks < 0 || ticks > MaxTicks {
		return nil, api.ErrRange
	}
	if ticks%grain != 0 {
		return nil, api.ErrValue
	}
	known := lists{}
	for count := 0; count*shortest <= ticks; count++ {
		if known.first(list{ticks, count}).exists {
			return known.values(list{ticks, count}), api.OK
		}
	}
	return nil, api.ErrValue
}

// list stands for the lists of a number of note values with a sum.
type list struct{ ticks, count int }

// beginning is the greatest note value with which such a list can begin, if there is a list.
type beginning struct {
	value  api.Value
	exists bool
}

// lists contains the beginnings that are known.
type lists map[list]beginning

// first finds the beginning of a list. If the lists for what is left after it are the right ones, their durations do not increase: a greater note value further on could also stand at the beginning.
func (known lists) first(l list) beginning {
	if l.count == 0 {
		return beginning{exists: l.ticks == 0}
	}
	if l.count == 1 {
		v, e := Find(l.ticks)
		return beginning{v, e == api.OK}
	}
	b, ok := known[l]
	if !ok {
		b = known.search(l)
		known[l] = b
	}
	return b
}

// search tries the note values in order, as long as as many of them are not too short.
func (known lists) search(l list) beginning {
	for v := range values() {
		ticks := length(v)
		if ticks*l.count < l.ticks {
			break
		}
		if ticks <= l.ticks && known.first(list{l.ticks - ticks, l.count - 1}).exists {
			return beginning{v, true}
		}
	}
	return beginning{}
}

// values returns the note values of a list that exists.
func (known lists) values(l list) []api.Value {
	var out []api.Value
	for l.count > 0 {
		v := known.first(l).value
		out = append(out, v)
		l = list{l.ticks - length(v), l.count - 1}
	}
	return out
}
