package clef_test

import (
	"math"
	"slices"
	"testing"

	"hemiola/api"
	"hemiola/clef"
)

// extremes are positions near the ends of the numbers.
var extremes = []int{math.MinInt, math.MinInt + 1, math.MinInt + 40, math.MaxInt - 40, math.MaxInt - 1, math.MaxInt}

// missing are no pitches: the number or a field is out of range.
var missing = []api.Pitch{
	{Step: 0, Alter: -1, Octave: -1}, {Step: 5, Alter: 0, Octave: 9}, {Step: 4, Alter: 1, Octave: 9}, {Step: 7, Octave: 4}, {Step: -1, Octave: 4},
	{Alter: 3, Octave: 4}, {Alter: -3, Octave: 4}, {Octave: 10}, {Octave: -2}, {Step: math.MaxInt, Octave: math.MaxInt}, {Octave: math.MinInt},
}

// all returns all pitches, in the order of their diatonic numbers.
func all() []api.Pitch {
	var l []api.Pitch
	for octave := -1; octave <= 9; octave++ {
		for step, number := range []int{0, 2, 4, 5, 7, 9, 11} {
			for alter := -2; alter <= 2; alter++ {
				if n := 12*(octave+1) + number + alter; n >= 0 && n <= 127 {
					l = append(l, api.Pitch{Step: step, Alter: alter, Octave: octave})
				}
			}
		}
	}
	return l
}

func TestP8_2Position(t *testing.T) {
	for _, r := range rows {
		for _, p := range all() {
			if n, e := clef.Position(r.clef, p); n != 7*p.Octave+p.Step-r.middle || e != api.OK {
				t.Errorf("Position(%d, %v) = %d, error %d", r.clef, p, n, e)
			}
		}
	}
	for _, c := range []struct {
		clef int
		p    api.Pitch
		want int
	}{
		{clef.Treble, api.Pitch{Octave: 4}, -6}, {clef.Alto, api.Pitch{Octave: 4}, 0}, {clef.Bass, api.Pitch{Step: 5}, -17}, {clef.Bass, api.Pitch{Octave: 4}, 6},
		{clef.TrebleDown, api.Pitch{Step: 6, Octave: 3}, 0}, {clef.Treble, api.Pitch{Step: 6, Alter: -2, Octave: 4}, 0},
	} {
		if n, e := clef.Position(c.clef, c.p); n != c.want || e != api.OK {
			t.Errorf("Position(%d, %v) = %d, error %d; want %d", c.clef, c.p, n, e, c.want)
		}
	}
}

func TestP8_2PositionErrors(t *testing.T) {
	for _, p := range missing {
		for c := 1; c <= 9; c++ {
			if n, e := clef.Position(c, p); n != 0 || e != api.ErrPitch {
				t.Errorf("Position(%d, %v) = %d, error %d", c, p, n, e)
			}
		}
		for _, c := range wrong {
			if n, e := clef.Position(c, p); n != 0 || e != api.ErrKind {
				t.Errorf("Position(%d, %v) = %d, error %d", c, p, n, e)
			}
		}
	}
	for _, c := range wrong {
		if n, e := clef.Position(c, api.Pitch{Octave: 4}); n != 0 || e != api.ErrKind {
			t.Errorf("Position(%d, C4) = %d, error %d", c, n, e)
		}
	}
}

func TestP8_3At(t *testing.T) {
	for _, r := range rows {
		naturals := map[int]api.Pitch{}
		for _, p := range all() {
			if p.Alter == 0 {
				naturals[7*p.Octave+p.Step-r.middle] = p
			}
		}
		for position := -300; position <= 300; position++ {
			want, exists := naturals[position]
			e := api.OK
			if !exists {
				e = api.ErrRange
			}
			if p, f := clef.At(r.clef, position); p != want || f != e {
				t.Errorf("At(%d, %d) = %v, error %d; want %v, error %d", r.clef, position, p, f, want, e)
			}
		}
		if len(naturals) != 75 {
			t.Errorf("%d naturals", len(naturals))
		}
	}
}

func TestP8_3AtErrors(t *testing.T) {
	for _, position := range extremes {
		for c := 1; c <= 9; c++ {
			if p, e := clef.At(c, position); p != (api.Pitch{}) || e != api.ErrRange {
				t.Errorf("At(%d, %d) = %v, error %d", c, position, p, e)
			}
		}
	}
	for _, position := range append([]int{0, 3, 201, -201}, extremes...) {
		for _, c := range wrong {
			if p, e := clef.At(c, position); p != (api.Pitch{}) || e != api.ErrKind {
				t.Errorf("At(%d, %d) = %v, error %d", c, position, p, e)
			}
		}
	}
	// The lowest and the highest natural: C-1 and G9.
	for _, c := range []struct {
		position int
		want     api.Pitch
		e        api.Errno
	}{{-29, api.Pitch{Octave: -1}, api.OK}, {-30, api.Pitch{}, api.ErrRange}, {45, api.Pitch{Step: 4, Octave: 9}, api.OK}, {46, api.Pitch{}, api.ErrRange}} {
		if p, e := clef.At(clef.Bass, c.position); p != c.want || e != c.e {
			t.Errorf("At(bass, %d) = %v, error %d", c.position, p, e)
		}
	}
}

func TestP8_4Ledger(t *testing.T) {
	for position := -210; position <= 210; position++ {
		var want []int
		for line := 6; line <= 200; line += 2 {
			switch {
			case position < -200 || position > 200:
			case line <= position:
				want = append(want, line)
			case -line >= position:
				want = append(want, -line)
			}
		}
		if l := clef.Ledger(position); !slices.Equal(l, want) {
			t.Errorf("Ledger(%d) = %v; want %v", position, l, want)
		}
	}
	for _, position := range extremes {
		if l := clef.Ledger(position); len(l) != 0 {
			t.Errorf("Ledger(%d) = %v", position, l)
		}
	}
}

func TestP8_4LedgerExamples(t *testing.T) {
	for _, c := range []struct {
		position int
		want     []int
	}{
		{-17, []int{-6, -8, -10, -12, -14, -16}}, {-6, []int{-6}}, {0, nil}, {5, nil}, {-5, nil}, {6, []int{6}}, {7, []int{6}}, {8, []int{6, 8}}, {-9, []int{-6, -8}}, {201, nil}, {-201, nil},
	} {
		l := clef.Ledger(c.position)
		if !slices.Equal(l, c.want) {
			t.Errorf("Ledger(%d) = %v; want %v", c.position, l, c.want)
		}
		clear(l)
		if again := clef.Ledger(c.position); !slices.Equal(again, c.want) {
			t.Errorf("a change of Ledger(%d) changes the next one", c.position)
		}
	}
	if n := len(clef.Ledger(200)); n != 98 {
		t.Errorf("Ledger(200) has %d lines", n)
	}
	if n := len(clef.Ledger(-200)); n != 98 {
		t.Errorf("Ledger(-200) has %d lines", n)
	}
}

// TestP8_7Inverse tests that At leads back from Position, and that octaves are seven positions.
func TestP8_7Inverse(t *testing.T) {
	for c := 1; c <= 9; c++ {
		positions := map[api.Pitch]int{}
		for _, p := range all() {
			n, _ := clef.Position(c, p)
			positions[p] = n
			natural := api.Pitch{Step: p.Step, Octave: p.Octave}
			q, e := clef.At(c, n)
			// B sharp in the octave -2, and what is above G9, exist only with an alteration.
			if e == api.OK && q != natural || e != api.OK && slices.Contains(all(), natural) {
				t.Errorf("At(%d, %d) = %v, error %d; want %v", c, n, q, e, natural)
			}
		}
		for p, n := range positions {
			p.Octave++
			if higher, ok := positions[p]; ok && higher != n+7 {
				t.Errorf("clef %d: %v is at %d, and an octave lower it is at %d", c, p, higher, n)
			}
		}
	}
}
