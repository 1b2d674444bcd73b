package interval_test

import (
	"math"
	"testing"

	"hemiola/api"
	"hemiola/interval"
)

// of returns an interval.
func of(steps, semitones int) api.Interval {
	return api.Interval{Steps: steps, Semitones: semitones}
}

// valid are all valid intervals.
func valid() []api.Interval {
	var out []api.Interval
	for steps := -77; steps <= 77; steps++ {
		for semitones := -140; semitones <= 140; semitones++ {
			out = append(out, of(steps, semitones))
		}
	}
	return out
}

// within reports whether an interval is valid.
func within(i api.Interval) bool {
	return -77 <= i.Steps && i.Steps <= 77 && -140 <= i.Semitones && i.Semitones <= 140
}

// some are valid intervals, those at the limits among them.
func some() []api.Interval {
	var out []api.Interval
	for _, steps := range []int{-77, -76, -40, -8, -7, -6, -1, 0, 1, 2, 4, 7, 8, 39, 76, 77} {
		for _, semitones := range []int{-140, -139, -70, -13, -12, -1, 0, 1, 2, 7, 12, 71, 139, 140} {
			out = append(out, of(steps, semitones))
		}
	}
	return out
}

// wrong are no valid intervals.
var wrong = []api.Interval{
	of(78, 0), of(-78, 0), of(0, 141), of(0, -141), of(78, 141), of(-78, -141), of(77, 141), of(78, 140), of(-77, -141), of(-78, -140),
	of(math.MaxInt, 0), of(math.MinInt, 0), of(0, math.MaxInt), of(0, math.MinInt), of(math.MaxInt, math.MaxInt), of(math.MinInt, math.MinInt),
}

func TestP6_1Check(t *testing.T) {
	if interval.MaxSteps != 77 || interval.MaxSemitones != 140 {
		t.Error(interval.MaxSteps, interval.MaxSemitones)
	}
	for _, i := range valid() {
		if e := interval.Check(i); e != api.OK {
			t.Errorf("Check(%v) = %d", i, e)
		}
	}
	for _, i := range wrong {
		if e := interval.Check(i); e != api.ErrRange {
			t.Errorf("Check(%v) = %d", i, e)
		}
	}
}

func TestP6_1Sums(t *testing.T) {
	for _, a := range some() {
		for _, b := range some() {
			compare(t, "Add", a, b, interval.Add, of(a.Steps+b.Steps, a.Semitones+b.Semitones))
			compare(t, "Sub", a, b, interval.Sub, of(a.Steps-b.Steps, a.Semitones-b.Semitones))
		}
	}
	for _, i := range valid() {
		if n, e := interval.Negate(i); n != of(-i.Steps, -i.Semitones) || e != api.OK {
			t.Errorf("Negate(%v) = %v, error %d", i, n, e)
		}
	}
}

// compare reports whether a function of two valid intervals returns an interval, or ErrRange if that is not valid.
func compare(t *testing.T, name string, a, b api.Interval, f func(a, b api.Interval) (api.Interval, api.Errno), want api.Interval) {
	t.Helper()
	error := api.OK
	if !within(want) {
		want, error = api.Interval{}, api.ErrRange
	}
	if i, e := f(a, b); i != want || e != error {
		t.Errorf("%s(%v, %v) = %v, error %d; want %v, error %d", name, a, b, i, e, want, error)
	}
}

func TestP6_1InvalidArguments(t *testing.T) {
	for _, i := range wrong {
		if n, e := interval.Negate(i); n != (api.Interval{}) || e != api.ErrRange {
			t.Errorf("Negate(%v) = %v, error %d", i, n, e)
		}
		for _, other := range append(some(), wrong...) {
			for name, f := range map[string]func(a, b api.Interval) (api.Interval, api.Errno){"Add": interval.Add, "Sub": interval.Sub} {
				if r, e := f(i, other); r != (api.Interval{}) || e != api.ErrRange {
					t.Errorf("%s(%v, %v) = %v, error %d", name, i, other, r, e)
				}
				if r, e := f(other, i); r != (api.Interval{}) || e != api.ErrRange {
					t.Errorf("%s(%v, %v) = %v, error %d", name, other, i, r, e)
				}
			}
		}
	}
}

func TestP6_5Simple(t *testing.T) {
	for _, i := range valid() {
		up, sign := i, 1
		if i.Steps < 0 || i.Steps == 0 && i.Semitones < 0 {
			up, sign = of(-i.Steps, -i.Semitones), -1
		}
		n := 0
		for up.Steps > 6 {
			up, n = of(up.Steps-7, up.Semitones-12), n+1
		}
		want := of(sign*up.Steps, sign*up.Semitones)
		if s, octaves, e := interval.Simple(i); s != want || octaves != sign*n || e != api.OK {
			t.Errorf("Simple(%v) = %v, %d, error %d; want %v, %d", i, s, octaves, e, want, sign*n)
		}
	}
	for _, i := range wrong {
		if s, octaves, e := interval.Simple(i); s != (api.Interval{}) || octaves != 0 || e != api.ErrRange {
			t.Errorf("Simple(%v) = %v, %d, error %d", i, s, octaves, e)
		}
	}
}

func TestP6_5SimpleExamples(t *testing.T) {
	for _, c := range []struct {
		i, simple api.Interval
		octaves   int
	}{
		{of(0, 0), of(0, 0), 0}, {of(6, 11), of(6, 11), 0}, {of(7, 12), of(0, 0), 1}, {of(7, 11), of(0, -1), 1}, {of(8, 15), of(1, 3), 1}, {of(15, 25), of(1, 1), 2},
		{of(-2, -3), of(-2, -3), 0}, {of(-7, -12), of(0, 0), -1}, {of(-9, -15), of(-2, -3), -1}, {of(0, -5), of(0, -5), 0}, {of(77, 140), of(0, 8), 11}, {of(-77, -132), of(0, 0), -11},
		{of(77, -140), of(0, -272), 11}, // 0 to 6 steps, however many semitones are left
	} {
		if s, octaves, e := interval.Simple(c.i); s != c.simple || octaves != c.octaves || e != api.OK {
			t.Errorf("Simple(%v) = %v, %d, error %d; want %v, %d", c.i, s, octaves, e, c.simple, c.octaves)
		}
	}
}

func TestP6_5Invert(t *testing.T) {
	for _, i := range valid() {
		want, error := of(7-i.Steps, 12-i.Semitones), api.OK
		if i.Steps < 0 || i.Steps > 7 || !within(want) {
			want, error = api.Interval{}, api.ErrRange
		}
		if r, e := interval.Invert(i); r != want || e != error {
			t.Errorf("Invert(%v) = %v, error %d; want %v, error %d", i, r, e, want, error)
		}
	}
	for _, i := range wrong {
		if r, e := interval.Invert(i); r != (api.Interval{}) || e != api.ErrRange {
			t.Errorf("Invert(%v) = %v, error %d", i, r, e)
		}
	}
}

func TestP6_5InvertExamples(t *testing.T) {
	for name, want := range map[string]string{"A4": "d5", "d5": "A4", "P1": "P8", "P8": "P1", "m3": "M6", "M7": "m2", "AA1": "dd8", "dd3": "AA6"} {
		i, _ := interval.Parse(name)
		r, e := interval.Invert(i)
		if s, _ := interval.Text(r); s != want || e != api.OK {
			t.Errorf("Invert(%s) = %s, error %d; want %s", name, s, e, want)
		}
	}
	if r, e := interval.Invert(of(0, -128)); r != of(7, 140) || e != api.OK {
		t.Error(r, e)
	}
	if r, e := interval.Invert(of(0, -129)); r != (api.Interval{}) || e != api.ErrRange {
		t.Error(r, e)
	}
}

func TestP6_7Fifths(t *testing.T) {
	for _, i := range valid() {
		if n, e := interval.Fifths(i); n != 7*i.Semitones-12*i.Steps || e != api.OK {
			t.Errorf("Fifths(%v) = %d, error %d", i, n, e)
		}
	}
	for i, want := range map[api.Interval]int{of(4, 7): 1, of(7, 12): 0, of(3, 5): -1, of(2, 3): -3, of(-2, -3): 3, of(0, 1): 7, of(1, 2): 2, of(-77, -140): -56} {
		if n, e := interval.Fifths(i); n != want || e != api.OK {
			t.Errorf("Fifths(%v) = %d, error %d; want %d", i, n, e, want)
		}
	}
	for _, i := range wrong {
		if n, e := interval.Fifths(i); n != 0 || e != api.ErrRange {
			t.Errorf("Fifths(%v) = %d, error %d", i, n, e)
		}
	}
}

func TestP6_8Group(t *testing.T) {
	few := []api.Interval{of(0, 0), of(4, 7), of(-2, -3), of(1, 1), of(3, 6), of(-7, -12), of(0, 1), of(20, -40), of(-30, 60)}
	for _, a := range few {
		if s, e := interval.Add(a, of(0, 0)); s != a || e != api.OK {
			t.Errorf("%v + 0 = %v, error %d", a, s, e)
		}
		n, _ := interval.Negate(a)
		if s, e := interval.Add(a, n); s != (api.Interval{}) || e != api.OK {
			t.Errorf("%v + %v = %v, error %d", a, n, s, e)
		}
		for _, b := range few {
			s, _ := interval.Add(a, b)
			if r, _ := interval.Add(b, a); r != s {
				t.Errorf("%v + %v = %v, but %v", a, b, s, r)
			}
			if d, _ := interval.Sub(s, b); d != a {
				t.Errorf("%v + %v - %v = %v", a, b, b, d)
			}
			sum, _ := interval.Fifths(s)
			x, _ := interval.Fifths(a)
			if y, _ := interval.Fifths(b); sum != x+y {
				t.Errorf("the Fifths of %v and %v are %d and %d, those of the sum %d", a, b, x, y, sum)
			}
			for _, c := range few {
				left, _ := interval.Add(s, c)
				right, _ := interval.Add(b, c)
				if right, _ = interval.Add(a, right); left != right {
					t.Errorf("(%v + %v) + %v = %v, but %v", a, b, c, left, right)
				}
			}
		}
	}
}

func TestP6_8InvertTwice(t *testing.T) {
	for steps := range 8 {
		for semitones := -128; semitones <= 140; semitones++ {
			r, e := interval.Invert(of(steps, semitones))
			if back, f := interval.Invert(r); back != of(steps, semitones) || e != api.OK || f != api.OK {
				t.Errorf("Invert(Invert(%d, %d)) = %v, errors %d and %d", steps, semitones, back, e, f)
			}
		}
	}
}
