package tuplet

import "hemiola/api"

// ratio is a fraction in lowest terms.
type ratio struct{ num, den int }

// under returns the ratio of an event under those of some tuplets that contain it.
func under(l []api.Tuplet, event int) ratio {
	r := ratio{1, 1}
	for _, t := range l {
		if contains(t, event) {
			r = reduce(r.num*t.Normal, r.den*t.Actual)
		}
	}
	return r
}

func contains(t api.Tuplet, event int) bool { return t.First <= event && event < end(t) }

func reduce(num, den int) ratio {
	common, rest := num, den
	for rest != 0 {
		common, rest = rest, common%rest
	}
	return ratio{num / common, den / common}
}

// of returns the length of an event with this ratio, and whether it is whole.
func (r ratio) of(written int) (int, bool) {
	if written%r.den != 0 {
		return 0, false
	}
	return written / r.den * r.num, true
}

// Depth returns how many tuplets contain an event, and Ratio the fraction in lowest terms by which its length is multiplied.
func Depth(l []api.Tuplet, event int) int {
	if Check(l, api.MaxEvents) != api.OK {
		return 0
	}
	depth := 0
	for _, t := range l {
		if contains(t, event) {
			depth++
		}
	}
	return depth
}

func Ratio(l []api.Tuplet, event int) (num, den int) {
	if Check(l, api.MaxEvents) != api.OK {
		return 0, 0
	}
	r := under(l, event)
	return r.num, r.den
}

// Length returns the length of an event with a written length, Lengths those of all events, and Sum their sum.
func Length(l []api.Tuplet, event, written int) (int, api.Errno) {
	if e := Check(l, api.MaxEvents); e != api.OK {
		return 0, e
	}
	if event < 0 || event >= api.MaxEvents {
		return 0, api.ErrRange
	}
	return length(l, event, written)
}

// length returns the length of an event under tuplets that are checked.
func length(l []api.Tuplet, event, written int) (int, api.Errno) {
	if written < 0 || written > MaxWritten {
		return 0, api.ErrRange
	}
	ticks, whole := under(l, event).of(written)
	if !whole {
		return 0, api.ErrTick
	}
	return ticks, api.OK
}

func Lengths(l []api.Tuplet, written []int) ([]int, api.Errno) {
	if e := Check(l, len(written)); e != api.OK {
		return nil, e
	}
	lengths := make([]int, len(written))
	for event, w := range written {
		ticks, e := length(l, event, w)
		if e != api.OK {
			return nil, e
		}
		lengths[event] = ticks
	}
	return lengths, api.OK
}

func Sum(l []api.Tuplet, written []int) (int, api.Errno) {
	lengths, e := Lengths(l, written)
	sum := 0
	for _, ticks := range lengths {
		sum += ticks
	}
	return sum, e
}
