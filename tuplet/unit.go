package tuplet

import "hemiola/api"

// The least and the greatest Log of a unit.
const (
	minLog = -1
	maxLog = 8
)

// Units returns, for each tuplet, the note value (its Log) of which it contains Actual notes.
func Units(l []api.Tuplet, written []int) ([]int, api.Errno) {
	if _, e := Lengths(l, written); e != api.OK {
		return nil, e
	}
	units := make([]int, len(l))
	for i, t := range l {
		ticks, whole := within(l[i+1:], written, t)
		if !whole || ticks%t.Actual != 0 {
			return nil, api.ErrTuplet
		}
		log, exists := undotted(ticks / t.Actual)
		if !exists {
			return nil, api.ErrTuplet
		}
		units[i] = log
	}
	return units, api.OK
}

// within returns the sum of the lengths of the events of a tuplet within it, under the tuplets that come later, and whether they are whole.
func within(later []api.Tuplet, written []int, t api.Tuplet) (int, bool) {
	sum := 0
	for event := t.First; event < end(t); event++ {
		ticks, whole := under(later, event).of(written[event])
		if !whole {
			return 0, false
		}
		sum += ticks
	}
	return sum, true
}

// undotted returns the Log of the note value without dots that has a duration, and whether there is one.
func undotted(ticks int) (int, bool) {
	for log := minLog; log <= maxLog; log++ {
		if 2*api.Whole>>(log-minLog) == ticks {
			return log, true
		}
	}
	return 0, false
}
