package metre

import (
	"slices"

	"hemiola/api"
)

// The metrical levels of ticks; levels from Unit + 1 on are those of repeated halves of the unit.
const (
	Barline = 0
	Middle  = 1
	Beat    = 2
	Unit    = 3
	None    = 15
)

// At returns the beat that contains a tick, and the offset of the tick from its onset.
func At(m api.Metre, at int) (beat, offset int, e api.Errno) {
	if e := checkTick(m, at); e != api.OK {
		return 0, 0, e
	}
	begin, t := 0, at%measureTicks(m)
	for i, onset := range beats(m) {
		if onset <= t {
			beat, begin = i, onset
		}
	}
	return beat, t - begin, api.OK
}

// Level returns the metrical level of a tick.
func Level(m api.Metre, at int) (int, api.Errno) {
	if e := checkTick(m, at); e != api.OK {
		return 0, e
	}
	return gridOf(m).level(at), api.OK
}

// checkTick returns the first error of a time signature and a tick.
func checkTick(m api.Metre, at int) api.Errno {
	if e := Check(m); e != api.OK {
		return e
	}
	if at < 0 || at > api.MaxTime {
		return api.ErrRange
	}
	return api.OK
}

// grid is what the levels of a time signature depend on, in ticks. It is computed once for all ticks of a duration.
type grid struct {
	unit, length int
	beats        []int
	halved       bool // whether the measure has a middle
}

// gridOf returns the grid of a valid time signature.
func gridOf(m api.Metre) grid {
	sizes := groups(m)
	return grid{
		unit:   unitTicks(m),
		length: measureTicks(m),
		beats:  beats(m),
		halved: len(sizes)%2 == 0 && len(slices.Compact(sizes)) == 1,
	}
}

// level returns the metrical level of a tick.
func (g grid) level(at int) int {
	t := at % g.length
	switch {
	case t == 0:
		return Barline
	case g.halved && 2*t == g.length:
		return Middle
	case slices.Contains(g.beats, t):
		return Beat
	case t%g.unit == 0:
		return Unit
	}
	// The unit is a multiple of Finest by a power of two, so it can be halved down to Finest.
	for part, level := g.unit/2, Unit+1; part >= Finest; part, level = part/2, level+1 {
		if t%part == 0 {
			return level
		}
	}
	return None
}
