package interval

import (
	"strconv"
	"strings"

	"hemiola/api"
)

// maxBytes is the greatest length of a text that Parse looks at.
const maxBytes = 300

// letters are the letters of the qualities from Diminished on.
const letters = "dmPMA"

var (
	// words are the English words of the qualities from Diminished on.
	words = [len(letters)]string{"diminished", "minor", "perfect", "major", "augmented"}
	// sizes are the English words of the numbers of steps up to an octave.
	sizes = [octaveSteps + 1]string{"unison", "second", "third", "fourth", "fifth", "sixth", "seventh", "octave"}
)

// Text returns the short name of an interval, and Parse the interval with a short name.
func Text(i api.Interval) (string, api.Errno) { return described(i, "-", short) }

// Name returns the English name of an interval.
func Name(i api.Interval) (string, api.Errno) { return described(i, "descending ", english) }

// described returns what a function says of an interval, or for a descending one, a prefix and what it says of the opposite.
func described(i api.Interval, prefix string, describe func(api.Interval) string) (string, api.Errno) {
	if e := Check(i); e != api.OK {
		return "", e
	}
	if descending(i) {
		return prefix + describe(opposite(i)), api.OK
	}
	return describe(i), api.OK
}

// short returns the short name of an interval that is not descending.
func short(i api.Interval) string {
	quality, times := qualityOf(i)
	letter := letters[quality-Diminished : quality-Diminished+1]
	return strings.Repeat(letter, max(times, 1)) + strconv.Itoa(i.Steps+1)
}

// english returns the English name of an interval that is not descending.
func english(i api.Interval) string {
	quality, times := qualityOf(i)
	return multiple(times) + words[quality-Diminished] + " " + size(i.Steps)
}

// multiple returns how the English name of an interval begins that is so many times diminished or augmented.
func multiple(times int) string {
	switch times {
	case 0, 1:
		return ""
	case 2:
		return "doubly "
	case 3:
		return "triply "
	default:
		return strconv.Itoa(times) + " times "
	}
}

// size returns the English word of a number of steps, or beyond an octave the ordinal number.
func size(steps int) string {
	if steps < len(sizes) {
		return sizes[steps]
	}
	n := steps + 1
	return strconv.Itoa(n) + ending(n)
}

// ending returns the letters that follow the digits of an English ordinal number.
func ending(n int) string {
	if n/10%10 == 1 {
		return "th"
	}
	switch n % 10 {
	case 1:
		return "st"
	case 2:
		return "nd"
	case 3:
		return "rd"
	default:
		return "th"
	}
}

func Parse(s string) (api.Interval, api.Errno) {
	switch {
	case s == "":
		return api.Interval{}, api.ErrShort
	case len(s) > maxBytes:
		return api.Interval{}, api.ErrLong
	}
	i := guess(s)
	// Zeros before the number, letters that do not agree with it or with each other, and a hyphen before what is not descending are found by comparison.
	if name, e := Text(i); e != api.OK || name != s {
		return api.Interval{}, api.ErrSyntax
	}
	return i, api.OK
}

// guess returns the only interval that can have a short name, or any one if none can.
func guess(s string) api.Interval {
	upwards := strings.TrimPrefix(s, "-")
	digits := strings.TrimLeft(upwards, letters)
	times := len(upwards) - len(digits)
	number, err := strconv.Atoi(digits)
	if times == 0 || err != nil || number < 1 || number > MaxSteps+1 {
		return api.Interval{}
	}
	steps := number - 1
	i := api.Interval{Steps: steps, Semitones: usual(steps) + deviation(upwards[0], times, steps)}
	if len(upwards) < len(s) {
		return opposite(i)
	}
	return i
}

// deviation returns how many semitones an interval with so many steps differs from the major or perfect one if its short name has a letter so many times.
func deviation(letter byte, times, steps int) int {
	switch letter {
	case 'A':
		return times
	case 'd':
		return least[classes[steps%octaveSteps]] - times
	case 'm':
		return least[majorClass]
	default:
		return 0
	}
}
