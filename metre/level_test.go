package metre_test

import (
	"math"
	"slices"
	"testing"

	"hemiola/api"
	"hemiola/metre"
)

const (
	quarter   = 483840
	eighth    = quarter / 2
	sixteenth = quarter / 4
)

// levelOf returns the level of a tick as the chapter defines it.
func levelOf(m api.Metre, at int) int {
	unit := 1935360 / m.Unit
	t, groups := at%(unit*m.Count), groupsOf(m)
	if t == 0 {
		return 0
	}
	equal := true
	for _, g := range groups {
		equal = equal && g == groups[0]
	}
	if 2*t == unit*m.Count && len(groups)%2 == 0 && equal {
		return 1
	}
	onset := 0
	for _, g := range groups {
		if t == onset {
			return 2
		}
		onset += g * unit
	}
	for k := 0; unit%(1<<k) == 0 && unit/(1<<k) >= 7560; k++ {
		if t%(unit/(1<<k)) == 0 {
			return 3 + k
		}
	}
	return 15
}

func TestP4_3Levels(t *testing.T) {
	for _, c := range []struct {
		m    api.Metre
		step int
		want []int
	}{
		{of(4, 4), sixteenth, []int{0, 5, 4, 5, 2, 5, 4, 5, 1, 5, 4, 5, 2, 5, 4, 5}},
		{of(6, 8), sixteenth, []int{0, 4, 3, 4, 3, 4, 1, 4, 3, 4, 3, 4}},
		{of(3, 4), eighth, []int{0, 4, 2, 4, 2, 4}},
		{of(2, 2), eighth, []int{0, 5, 4, 5, 1, 5, 4, 5}},
		{of(7, 8, 2, 2, 3), eighth, []int{0, 3, 2, 3, 2, 3, 3}},
		{of(12, 8), eighth, []int{0, 3, 3, 2, 3, 3, 1, 3, 3, 2, 3, 3}},
		{of(9, 8), eighth, []int{0, 3, 3, 2, 3, 3, 2, 3, 3}},
		{of(3, 8), eighth, []int{0, 3, 3}},
		{of(5, 8), eighth, []int{0, 2, 2, 2, 2}},
		{of(6, 4), quarter, []int{0, 2, 2, 1, 2, 2}},
		{of(6, 4, 3, 3), quarter, []int{0, 3, 3, 1, 3, 3}},
		{of(6, 4, 2, 4), quarter, []int{0, 3, 2, 3, 3, 3}},
		{of(6, 4, 2, 2, 2), quarter, []int{0, 3, 2, 3, 2, 3}},
		// A beat begins in the middle, but the groups are not equal.
		{of(4, 4, 1, 1, 2), quarter, []int{0, 2, 2, 3}}, {of(6, 8, 1, 2, 2, 1), eighth, []int{0, 2, 3, 2, 3, 2}},
		{of(1, 64), 3780, []int{0, 15, 5, 15, 4, 15, 5, 15}}, {of(1, 32), 7560, []int{0, 6, 5, 6, 4, 6, 5, 6}},
		{of(1, 1), 7560, []int{0, 11, 10, 11, 9, 11, 10, 11, 8}}, {of(1, 1), eighth, []int{0, 6, 5, 6, 4, 6, 5, 6}},
		{of(4, 4), 1, []int{0, 15, 15}}, {of(4, 4), 7559, []int{0, 15, 15}},
	} {
		for i, want := range c.want {
			if n, e := metre.Level(c.m, i*c.step); n != want || e != api.OK {
				t.Errorf("Level(%v, %d) = %d, error %d; want %d", c.m, i*c.step, n, e, want)
			}
		}
	}
}

// TestP4_3AllSignatures tests the beats and the levels of the ticks of a measure and of later ones.
func TestP4_3AllSignatures(t *testing.T) {
	for _, m := range signatures() {
		length, _ := metre.Length(m)
		beats, _ := metre.Beats(m)
		last := api.MaxTime/length*length - length
		for _, at := range ticks(m) {
			beat := 0
			for beat+1 < len(beats) && beats[beat+1] <= at {
				beat++
			}
			for _, later := range []int{0, length, last} {
				if i, offset, e := metre.At(m, later+at); i != beat || offset != at-beats[beat] || e != api.OK {
					t.Fatalf("At(%v, %d) = %d, %d, error %d", m, later+at, i, offset, e)
				}
				if n, e := metre.Level(m, later+at); n != levelOf(m, at) || e != api.OK {
					t.Fatalf("Level(%v, %d) = %d, error %d; want %d", m, later+at, n, e, levelOf(m, at))
				}
			}
		}
	}
}

// ticks returns some ticks of a measure in order, among them its last one and those around the beats.
func ticks(m api.Metre) []int {
	length, _ := metre.Length(m)
	l := []int{0, 1, 3780, 7560, 7561, length / 2, length - 7560, length - 1}
	for k := range 40 {
		l = append(l, (length/40*k)/7560*7560)
	}
	beats, _ := metre.Beats(m)
	for _, at := range beats[1:] {
		l = append(l, at-1, at, at+7560)
	}
	slices.Sort(l)
	return l
}

func TestP4_3At(t *testing.T) {
	for _, c := range []struct {
		m                api.Metre
		at, beat, offset int
	}{
		{of(7, 8, 2, 2, 3), 0, 0, 0}, {of(7, 8, 2, 2, 3), 483839, 0, 483839}, {of(7, 8, 2, 2, 3), 483840, 1, 0}, {of(7, 8, 2, 2, 3), 967679, 1, 483839}, {of(7, 8, 2, 2, 3), 1693439, 2, 725759},
		{of(7, 8, 2, 2, 3), 1693440, 0, 0}, {of(7, 8, 2, 2, 3), 1693440 + 483841, 1, 1},
		{of(6, 8), 725761, 1, 1}, {of(3, 8), 483840, 0, 483840}, {of(1, 4), 10*483840 + 5, 0, 5},
	} {
		if beat, offset, e := metre.At(c.m, c.at); beat != c.beat || offset != c.offset || e != api.OK {
			t.Errorf("At(%v, %d) = %d, %d, error %d", c.m, c.at, beat, offset, e)
		}
	}
}

func TestP4_3Errors(t *testing.T) {
	type test struct {
		m  api.Metre
		at int
		e  api.Errno
	}
	tests := []test{
		{of(4, 4), -1, api.ErrRange}, {of(4, 4), api.MaxTime + 1, api.ErrRange}, {of(4, 4), math.MinInt, api.ErrRange}, {of(4, 4), math.MaxInt, api.ErrRange},
		{of(4, 4), api.MaxTime, api.OK}, {of(4, 5), -1, api.ErrValue}, {of(4, 4, 4), api.MaxTime + 1, api.ErrMetre},
	}
	for _, c := range invalid {
		tests = append(tests, test{c.m, 0, c.e}, test{c.m, -1, c.e})
	}
	for _, c := range tests {
		if n, e := metre.Level(c.m, c.at); e != c.e || e != api.OK && n != 0 {
			t.Errorf("Level(%v, %d) = %d, error %d; want error %d", c.m, c.at, n, e, c.e)
		}
		if beat, offset, e := metre.At(c.m, c.at); e != c.e || e != api.OK && (beat != 0 || offset != 0) {
			t.Errorf("At(%v, %d) = %d, %d, error %d; want error %d", c.m, c.at, beat, offset, e, c.e)
		}
		if n, e := metre.Offset(c.m, c.at); e != c.e || e != api.OK && n != 0 {
			t.Errorf("Offset(%v, %d) = %d, error %d; want error %d", c.m, c.at, n, e, c.e)
		}
	}
}
