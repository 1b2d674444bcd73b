package check

import (
	"slices"

	"hemiola/api"
	"hemiola/measure"
)

// jumps looks for jumps and labels that do not exist, occur twice, are within repeats, or lead nowhere.
func (c *checker) jumps() {
	jumped, labels := false, 0
	for i, m := range c.score.Measures {
		switch {
		case !fromTo(m.Jump, 0, api.DalSegnoCoda) || !fromTo(m.Labels, 0, api.AllLabel),
			(m.Jump != 0 || m.Labels != 0) && (m.RepeatEnd != 0 || m.Endings != 0),
			m.Jump != 0 && jumped,
			m.Labels&labels != 0,
			!c.inPlace(m.Jump, i):
			c.violated(m.ID)
		}
		jumped, labels = jumped || m.Jump != 0, labels|m.Labels&api.AllLabel
	}
}

// inPlace reports whether the labels that a jump at a measure needs are in place; without a jump, it needs none.
func (c *checker) inPlace(jump, at int) bool {
	before := func(label int) bool { return fromTo(c.labelled(label), 0, at) }
	if jump >= api.DalSegno && !before(api.Segno) {
		return false
	}
	switch jump {
	case api.DaCapoFine, api.DalSegnoFine:
		return before(api.Fine)
	case api.DaCapoCoda, api.DalSegnoCoda:
		return before(api.ToCoda) && c.labelled(api.Coda) > c.labelled(api.ToCoda)
	}
	return true
}

// labelled returns the index of the first measure with a label, or -1.
func (c *checker) labelled(label int) int {
	return slices.IndexFunc(c.score.Measures, func(m api.Measure) bool { return m.Labels&label != 0 })
}

// The limits of tempi.
const (
	maxMicros  = 60000000
	leastSwing = 50
	mostSwing  = 75
)

// tempi looks for tempo marks that are not in order, and tempi, swings and breaks that do not exist.
func (c *checker) tempi() {
	for _, m := range c.score.Measures {
		length, _ := measure.Length(m) // it has been checked before
		swings := m.Swing == 0 || fromTo(m.Swing, leastSwing, mostSwing)
		if !properTempi(m.Tempi, length) || !swings || !fromTo(m.Break, api.BreakNone, api.BreakNever) {
			c.violated(m.ID)
		}
	}
}

// properTempi reports whether tempo marks are valid, increase, and lie within the measure.
func properTempi(l []api.TempoMark, length int) bool {
	before := -1
	for _, t := range l {
		if t.At <= before || t.At >= length || !fromTo(t.Micros, 1, maxMicros) {
			return false
		}
		before = t.At
	}
	return true
}
