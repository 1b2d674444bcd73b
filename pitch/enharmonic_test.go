package pitch_test

import (
	"math"
	"slices"
	"testing"

	"hemiola/api"
	"hemiola/pitch"
)

// wrong are no semitone numbers.
var wrong = []int{-1, -2, 128, 129, -128, math.MinInt, math.MaxInt}

func TestP5_2Enharmonics(t *testing.T) {
	for number := range 128 {
		var want []api.Pitch // all() is in the order of the diatonic numbers, of which each has one pitch here
		for _, p := range all() {
			if numberOf(p) == number {
				want = append(want, p)
			}
		}
		l, e := pitch.Enharmonics(number)
		if !slices.Equal(l, want) || e != api.OK {
			t.Errorf("Enharmonics(%d) = %v, error %d; want %v", number, l, e, want)
		}
		if len(l) > 3 || len(l) < 2 && number > 3 && number < 124 && number%12 != 8 {
			t.Errorf("Enharmonics(%d) = %v", number, l)
		}
	}
	for _, n := range wrong {
		if l, e := pitch.Enharmonics(n); len(l) != 0 || e != api.ErrRange {
			t.Errorf("Enharmonics(%d) = %v, error %d", n, l, e)
		}
	}
}

func TestP5_2EnharmonicsExamples(t *testing.T) {
	for _, c := range []struct {
		number int
		want   []api.Pitch
	}{
		{61, []api.Pitch{of(6, 2, 3), of(0, 1, 4), of(1, -1, 4)}},
		{60, []api.Pitch{of(6, 1, 3), of(0, 0, 4), of(1, -2, 4)}},
		{68, []api.Pitch{of(4, 1, 4), of(5, -1, 4)}},
		{0, []api.Pitch{of(0, 0, -1), of(1, -2, -1)}},
		{1, []api.Pitch{of(0, 1, -1), of(1, -1, -1)}},
		{127, []api.Pitch{of(3, 2, 9), of(4, 0, 9), of(5, -2, 9)}},
	} {
		if l, e := pitch.Enharmonics(c.number); !slices.Equal(l, c.want) || e != api.OK {
			t.Errorf("Enharmonics(%d) = %v, error %d; want %v", c.number, l, e, c.want)
		}
	}
	l, _ := pitch.Enharmonics(60)
	l[0] = api.Pitch{}
	if again, _ := pitch.Enharmonics(60); again[0] != of(6, 1, 3) {
		t.Error("a change of the result changes the next one")
	}
}

func TestP5_2Respell(t *testing.T) {
	for _, p := range all() {
		for _, steps := range []int{math.MinInt, -7, -4, -3, -2, -1, 0, 1, 2, 3, 4, 7, math.MaxInt} {
			var want api.Pitch
			e := api.ErrPitch
			for _, q := range all() {
				if numberOf(q) == numberOf(p) && 7*q.Octave+q.Step-7*p.Octave-p.Step == steps {
					want, e = q, api.OK
				}
			}
			if q, f := pitch.Respell(p, steps); q != want || f != e {
				t.Errorf("Respell(%v, %d) = %v, error %d; want %v, error %d", p, steps, q, f, want, e)
			}
		}
	}
	for _, p := range missing {
		for steps := -2; steps <= 2; steps++ {
			if q, e := pitch.Respell(p, steps); q != (api.Pitch{}) || e != api.ErrPitch {
				t.Errorf("Respell(%v, %d) = %v, error %d", p, steps, q, e)
			}
		}
	}
}

func TestP5_2RespellExamples(t *testing.T) {
	c4 := of(0, 0, 4)
	for steps, want := range map[int]api.Pitch{-1: of(6, 1, 3), 0: c4, 1: of(1, -2, 4)} {
		if p, e := pitch.Respell(c4, steps); p != want || e != api.OK {
			t.Errorf("Respell(C4, %d) = %v, error %d", steps, p, e)
		}
	}
	if p, e := pitch.Respell(c4, 2); p != (api.Pitch{}) || e != api.ErrPitch {
		t.Errorf("Respell(C4, 2) = %v, error %d", p, e)
	}
}

func TestP5_3Simple(t *testing.T) {
	for number := range 128 {
		for _, flat := range []bool{false, true} {
			alter := 1
			if flat {
				alter = -1
			}
			if keys[number%12] != '.' {
				alter = 0
			}
			p, e := pitch.Simple(number, flat)
			if e != api.OK || p.Alter != alter || pitch.Check(p) != api.OK || numberOf(p) != number {
				t.Errorf("Simple(%d, %t) = %v, error %d", number, flat, p, e)
			}
		}
	}
	for _, n := range wrong {
		for _, flat := range []bool{false, true} {
			if p, e := pitch.Simple(n, flat); p != (api.Pitch{}) || e != api.ErrRange {
				t.Errorf("Simple(%d, %t) = %v, error %d", n, flat, p, e)
			}
		}
	}
}

func TestP5_6Fifths(t *testing.T) {
	known := map[[2]int]api.Pitch{}
	for number := range 128 {
		l, _ := pitch.Enharmonics(number)
		for _, p := range l {
			first, _ := pitch.Fifths(l[0])
			fifths, e := pitch.Fifths(p)
			if e != api.OK || (fifths-first)%12 != 0 {
				t.Errorf("the fifths of %v are %d, those of %v %d", p, fifths, l[0], first)
			}
			if q, ok := known[[2]int{number, fifths}]; ok {
				t.Errorf("%v and %v have the same number and place on the line of fifths", p, q)
			}
			known[[2]int{number, fifths}] = p
		}
	}
	if len(known) != len(all()) {
		t.Errorf("%d pitches of %d are found", len(known), len(all()))
	}
}
