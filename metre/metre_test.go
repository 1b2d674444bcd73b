package metre_test

import (
	"math"
	"slices"
	"testing"

	"hemiola/api"
	"hemiola/metre"
)

type six = [6]int

// of returns a time signature; without groups it has the usual ones.
func of(count, unit int, groups ...int) api.Metre {
	m := api.Metre{Count: count, Unit: unit}
	copy(m.Groups[:], groups)
	return m
}

// signatures returns all time signatures without groups, and many with groups.
func signatures() []api.Metre {
	var l []api.Metre
	for count := 1; count <= 64; count++ {
		for _, unit := range []int{1, 2, 4, 8, 16, 32, 64} {
			l = append(l, of(count, unit))
			for parts := 2; parts <= min(count, 6); parts++ {
				even := slices.Repeat([]int{count / parts}, parts)
				even[0] += count % parts
				first := slices.Repeat([]int{1}, parts)
				first[parts-1] = count - parts + 1
				l = append(l, of(count, unit, even...), of(count, unit, first...))
			}
		}
	}
	return l
}

// groupsOf returns the groups of a time signature as the chapter defines them.
func groupsOf(m api.Metre) []int {
	var l []int
	for _, g := range m.Groups {
		if g > 0 {
			l = append(l, g)
		}
	}
	if len(l) > 0 {
		return l
	}
	if m.Unit >= 8 && m.Count%3 == 0 {
		return slices.Repeat([]int{3}, m.Count/3)
	}
	return slices.Repeat([]int{1}, m.Count)
}

// invalid are no time signatures, with their errors.
var invalid = []struct {
	m api.Metre
	e api.Errno
}{
	{of(0, 4), api.ErrRange}, {of(65, 4), api.ErrRange}, {of(-4, 4), api.ErrRange}, {of(math.MinInt, 4), api.ErrRange}, {of(math.MaxInt, 4), api.ErrRange}, {api.Metre{}, api.ErrRange},
	{of(4, 0), api.ErrValue}, {of(4, 128), api.ErrValue}, {of(4, -4), api.ErrValue}, {of(4, 3), api.ErrValue}, {of(4, 6), api.ErrValue}, {of(4, 12), api.ErrValue}, {of(4, 63), api.ErrValue}, {of(4, 65), api.ErrValue}, {of(4, math.MinInt), api.ErrValue}, {of(4, math.MaxInt), api.ErrValue},
	// One group, another sum, a gap, a group that is not positive.
	{of(4, 4, 4), api.ErrMetre}, {of(1, 4, 1), api.ErrMetre}, {of(4, 4, 2, 1), api.ErrMetre}, {of(4, 4, 2, 3), api.ErrMetre}, {of(4, 4, 2, 2, 1), api.ErrMetre}, {of(4, 4, 1, 1, 1, 1, 1, 1), api.ErrMetre},
	{of(4, 4, 0, 4), api.ErrMetre}, {of(4, 4, 0, 2, 2), api.ErrMetre}, {of(4, 4, 2, 0, 2), api.ErrMetre}, {of(4, 4, 2, 2, 0, 0, 0, 1), api.ErrMetre}, {of(4, 4, 2, 1, 0, 0, 0, 1), api.ErrMetre},
	{of(4, 4, 5, -1), api.ErrMetre}, {of(4, 4, -1, 5), api.ErrMetre}, {of(4, 4, 3, -1, 2), api.ErrMetre}, {of(4, 4, 2, 2, 0, -1), api.ErrMetre}, {of(4, 4, 2, 2, -1), api.ErrMetre}, {of(4, 4, 2, 2, -1, 1), api.ErrMetre}, {of(4, 4, 0, 0, 0, 0, 0, -1), api.ErrMetre}, {of(4, 4, -4), api.ErrMetre},
	// The sum of these is 4 if it overflows.
	{of(4, 4, math.MaxInt, math.MaxInt, 6), api.ErrMetre}, {of(4, 4, math.MinInt, math.MinInt, 2, 2), api.ErrMetre}, {of(4, 4, 6, math.MaxInt, math.MaxInt), api.ErrMetre},
	// Of several errors, the first one is returned.
	{of(0, 3, 1), api.ErrRange}, {of(65, 4, 4), api.ErrRange}, {of(4, 3, 4), api.ErrValue}, {of(65, 128), api.ErrRange},
}

func TestP4_1Check(t *testing.T) {
	for _, m := range append(signatures(), of(6, 4, 1, 1, 1, 1, 1, 1), of(64, 64, 63, 1), of(64, 1, 1, 63), of(2, 8, 1, 1)) {
		if e := metre.Check(m); e != api.OK {
			t.Errorf("Check(%v): error %d", m, e)
		}
	}
	for _, c := range invalid {
		if e := metre.Check(c.m); e != c.e {
			t.Errorf("Check(%v): error %d; want %d", c.m, e, c.e)
		}
	}
}

func TestP4_1Constants(t *testing.T) {
	if metre.MaxCount != 64 || metre.MaxUnit != 64 || metre.Finest != 7560 || metre.MaxSpan != 15482880 || metre.MaxBytes != 32 {
		t.Error("the limits are not those of the chapter")
	}
	if metre.Barline != 0 || metre.Middle != 1 || metre.Beat != 2 || metre.Unit != 3 || metre.None != 15 {
		t.Error("the levels are not those of the chapter")
	}
}

// TestP4_1CheckUnits tests all units near the valid ones, and TestP4_1CheckGroups all short lists of small groups.
func TestP4_1CheckUnits(t *testing.T) {
	valid := []int{1, 2, 4, 8, 16, 32, 64}
	for unit := -70; unit <= 300; unit++ {
		want := api.ErrValue
		if slices.Contains(valid, unit) {
			want = api.OK
		}
		if e := metre.Check(of(4, unit)); e != want {
			t.Errorf("unit %d: error %d; want %d", unit, e, want)
		}
	}
}

func TestP4_1CheckGroups(t *testing.T) {
	small := []int{-1, 0, 1, 2, 3}
	for n := range 5 * 5 * 5 * 5 {
		groups := six{small[n%5], small[n/5%5], small[n/25%5], small[n/125%5]}
		positive := 0
		for positive < 6 && groups[positive] > 0 {
			positive++
		}
		sum := 0
		for _, g := range groups {
			sum += g
		}
		rest := groups
		clear(rest[:positive])
		proper := groups == six{} || positive >= 2 && rest == six{} && sum == 4
		if e := metre.Check(api.Metre{Count: 4, Unit: 8, Groups: groups}); (e == api.OK) != proper || !proper && e != api.ErrMetre {
			t.Errorf("groups %v: error %d; proper: %t", groups, e, proper)
		}
	}
}

func TestP4_2LengthGroupsBeats(t *testing.T) {
	for _, c := range []struct {
		m      api.Metre
		length int
		groups []int
		beats  []int
	}{
		{of(7, 8, 2, 2, 3), 1693440, []int{2, 2, 3}, []int{0, 483840, 967680}},
		{of(4, 4), 1935360, []int{1, 1, 1, 1}, []int{0, 483840, 967680, 1451520}},
		{of(3, 4), 1451520, []int{1, 1, 1}, []int{0, 483840, 967680}},
		{of(6, 8), 1451520, []int{3, 3}, []int{0, 725760}},
		{of(6, 4), 2903040, []int{1, 1, 1, 1, 1, 1}, []int{0, 483840, 967680, 1451520, 1935360, 2419200}},
		{of(3, 8), 725760, []int{3}, []int{0}},
		{of(5, 8), 1209600, []int{1, 1, 1, 1, 1}, []int{0, 241920, 483840, 725760, 967680}},
		{of(9, 16), 1088640, []int{3, 3, 3}, []int{0, 362880, 725760}},
		{of(3, 8, 1, 2), 725760, []int{1, 2}, []int{0, 241920}},
		{of(1, 64), 30240, []int{1}, []int{0}}, {of(1, 1), 1935360, []int{1}, []int{0}},
		{of(64, 1, 32, 32), 123863040, []int{32, 32}, []int{0, 61931520}},
	} {
		if n, e := metre.Length(c.m); n != c.length || e != api.OK {
			t.Errorf("Length(%v) = %d, error %d", c.m, n, e)
		}
		if l, e := metre.Groups(c.m); !slices.Equal(l, c.groups) || e != api.OK {
			t.Errorf("Groups(%v) = %v, error %d", c.m, l, e)
		}
		if l, e := metre.Beats(c.m); !slices.Equal(l, c.beats) || e != api.OK {
			t.Errorf("Beats(%v) = %v, error %d", c.m, l, e)
		}
	}
}

func TestP4_2AllSignatures(t *testing.T) {
	for _, m := range signatures() {
		if n, e := metre.Length(m); n != m.Count*(1935360/m.Unit) || e != api.OK {
			t.Errorf("Length(%v) = %d, error %d", m, n, e)
		}
		groups, e := metre.Groups(m)
		if !slices.Equal(groups, groupsOf(m)) || e != api.OK {
			t.Errorf("Groups(%v) = %v, error %d", m, groups, e)
		}
		beats, e := metre.Beats(m)
		if len(beats) != len(groups) || e != api.OK {
			t.Fatalf("Beats(%v) = %v, error %d", m, beats, e)
		}
		at := 0
		for i, g := range groups {
			if beats[i] != at {
				t.Errorf("Beats(%v) = %v", m, beats)
			}
			at += g * (1935360 / m.Unit)
		}
		groups[0], beats[0] = 99, 99
		if l, _ := metre.Groups(m); l[0] == 99 {
			t.Errorf("a change of Groups(%v) changes the next result", m)
		}
		if l, _ := metre.Beats(m); l[0] != 0 {
			t.Errorf("a change of Beats(%v) changes the next result", m)
		}
	}
	for _, c := range invalid {
		if n, e := metre.Length(c.m); n != 0 || e != c.e {
			t.Errorf("Length(%v) = %d, error %d", c.m, n, e)
		}
		if l, e := metre.Groups(c.m); len(l) != 0 || e != c.e {
			t.Errorf("Groups(%v) = %v, error %d", c.m, l, e)
		}
		if l, e := metre.Beats(c.m); len(l) != 0 || e != c.e {
			t.Errorf("Beats(%v) = %v, error %d", c.m, l, e)
		}
	}
}

func TestP4_4Offset(t *testing.T) {
	for _, c := range []struct {
		m            api.Metre
		length, want int
		e            api.Errno
	}{
		{of(4, 4), 483840, 1451520, api.OK}, {of(4, 4), 1, 1935359, api.OK}, {of(4, 4), 1935359, 1, api.OK}, {of(4, 4), 1935360, 0, api.OK}, {of(4, 4), 1935361, 0, api.OK}, {of(4, 4), api.MaxTime, 0, api.OK},
		{of(6, 8), 241920, 1209600, api.OK}, {of(64, 1), 1935360, 63 * 1935360, api.OK},
		{of(4, 4), 0, 0, api.ErrRange}, {of(4, 4), -1, 0, api.ErrRange}, {of(4, 4), api.MaxTime + 1, 0, api.ErrRange}, {of(4, 4), math.MinInt, 0, api.ErrRange}, {of(4, 4), math.MaxInt, 0, api.ErrRange},
		{of(4, 3), 0, 0, api.ErrValue}, {of(4, 4, 4), -1, 0, api.ErrMetre}, {of(0, 4), 483840, 0, api.ErrRange},
	} {
		if n, e := metre.Offset(c.m, c.length); n != c.want || e != c.e {
			t.Errorf("Offset(%v, %d) = %d, error %d; want %d, error %d", c.m, c.length, n, e, c.want, c.e)
		}
	}
}
