package interval

import "hemiola/api"

// The qualities of intervals.
const (
	Diminished = -2
	Minor      = -1
	Perfect    = 0
	Major      = 1
	Augmented  = 2
)

// The classes of intervals: those that can be perfect, and those that can be major or minor.
const (
	perfectClass = 0
	majorClass   = 1
)

var (
	// naturals are the semitones of the natural notes above C.
	naturals = [octaveSteps]int{0, 2, 4, 5, 7, 9, 11}
	// classes are the classes of the intervals with so many steps.
	classes = [octaveSteps]int{perfectClass, majorClass, majorClass, perfectClass, perfectClass, majorClass, majorClass}
	// least are the least deviations of the intervals of a class that are not diminished.
	least = [2]int{0, -1}
)

// usual returns the semitones of the major or perfect interval with a number of steps that is not negative.
func usual(steps int) int {
	return octaveSemitones*(steps/octaveSteps) + naturals[steps%octaveSteps]
}

// Quality returns the quality of an interval, and how many times it is diminished or augmented.
func Quality(i api.Interval) (quality, times int, e api.Errno) {
	if e := Check(i); e != api.OK {
		return 0, 0, e
	}
	if descending(i) {
		i = opposite(i)
	}
	quality, times = qualityOf(i)
	return quality, times, api.OK
}

// qualityOf returns the quality of an interval that is not descending.
func qualityOf(i api.Interval) (quality, times int) {
	qualities := [2]func(int) (int, int){perfectClass: ofPerfect, majorClass: ofMajor}
	return qualities[classes[i.Steps%octaveSteps]](i.Semitones - usual(i.Steps))
}

// ofPerfect returns the quality of a deviation from a perfect interval.
func ofPerfect(deviation int) (quality, times int) {
	switch {
	case deviation > 0:
		return Augmented, deviation
	case deviation < least[perfectClass]:
		return Diminished, least[perfectClass] - deviation
	default:
		return Perfect, 0
	}
}

// ofMajor returns the quality of a deviation from a major interval.
func ofMajor(deviation int) (quality, times int) {
	switch {
	case deviation > 0:
		return Augmented, deviation
	case deviation < least[majorClass]:
		return Diminished, least[majorClass] - deviation
	case deviation < 0:
		return Minor, 0
	default:
		return Major, 0
	}
}
