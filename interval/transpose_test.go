package interval_test

import (
	"math"
	"slices"
	"testing"

	"hemiola/api"
	"hemiola/interval"
)

// at returns a pitch.
func at(step, alter, octave int) api.Pitch {
	return api.Pitch{Step: step, Alter: alter, Octave: octave}
}

// position and number return the staff position and the number of a pitch.
func position(p api.Pitch) int { return 7*p.Octave + p.Step }

func number(p api.Pitch) int {
	return 12*(p.Octave+1) + []int{0, 2, 4, 5, 7, 9, 11}[p.Step] + p.Alter
}

// pitches are all valid pitches in the order of their staff positions.
func pitches() []api.Pitch {
	var out []api.Pitch
	for octave := -1; octave <= 9; octave++ {
		for step := range 7 {
			for alter := -2; alter <= 2; alter++ {
				if p := at(step, alter, octave); number(p) >= 0 && number(p) <= 127 {
					out = append(out, p)
				}
			}
		}
	}
	return out
}

// missing are no valid pitches.
var missing = []api.Pitch{
	at(-1, 0, 4), at(7, 0, 4), at(0, -3, 4), at(0, 3, 4), at(0, 0, -2), at(0, 0, 10), at(0, -1, -1), at(0, -2, -1), at(1, -2, -2), at(6, 2, -2), at(4, 1, 9), at(5, -1, 9), at(5, 0, 9), at(6, -2, 9), at(0, -2, 10),
	at(math.MinInt, 0, 4), at(math.MaxInt, 0, 4), at(0, math.MinInt, 4), at(0, math.MaxInt, 4), at(0, 0, math.MinInt), at(0, 0, math.MaxInt),
}

func TestP6_2Between(t *testing.T) {
	all := pitches()
	for _, from := range all {
		for _, to := range all {
			want := of(position(to)-position(from), number(to)-number(from))
			if i, e := interval.Between(from, to); i != want || e != api.OK {
				t.Fatalf("Between(%v, %v) = %v, error %d; want %v", from, to, i, e, want)
			}
		}
	}
	for _, p := range missing {
		for _, q := range append(all[:3:3], missing...) {
			if i, e := interval.Between(p, q); i != (api.Interval{}) || e != api.ErrPitch {
				t.Errorf("Between(%v, %v) = %v, error %d", p, q, i, e)
			}
			if i, e := interval.Between(q, p); i != (api.Interval{}) || e != api.ErrPitch {
				t.Errorf("Between(%v, %v) = %v, error %d", q, p, i, e)
			}
		}
	}
}

func TestP6_2BetweenExamples(t *testing.T) {
	c4, eFlat4 := at(0, 0, 4), at(2, -1, 4)
	if i, e := interval.Between(c4, eFlat4); i != of(2, 3) || e != api.OK {
		t.Error(i, e)
	}
	if i, e := interval.Between(eFlat4, c4); i != of(-2, -3) || e != api.OK {
		t.Error(i, e)
	}
	if i, e := interval.Between(at(0, 0, -1), at(5, -2, 9)); i != of(75, 127) || e != api.OK {
		t.Error(i, e)
	}
	if i, e := interval.Between(at(6, 2, 3), at(1, -2, 4)); i != of(2, -1) || e != api.OK {
		t.Error(i, e)
	}
}

// moves are intervals by which all pitches are transposed.
func moves() []api.Interval {
	out := some()
	for steps := -9; steps <= 9; steps++ {
		for semitones := -15; semitones <= 15; semitones++ {
			out = append(out, of(steps, semitones))
		}
	}
	return out
}

// reached returns the pitches to which Exact and Transpose lead, as the chapter defines them.
func reached(all []api.Pitch, p api.Pitch, i api.Interval) (exact, near api.Pitch, one, any bool) {
	target := position(p) + i.Steps
	distance := func(q api.Pitch) int { return max(position(q)-target, target-position(q)) }
	for _, q := range all {
		if number(q) != number(p)+i.Semitones {
			continue
		}
		if distance(q) == 0 {
			exact, one = q, true
		}
		if !any || distance(q) < distance(near) {
			near, any = q, true
		}
	}
	return exact, near, one, any
}

func TestP6_2ExactAndP6_3Transpose(t *testing.T) {
	all := pitches()
	for k, p := range all {
		if k%3 != 0 && k > 12 && k < len(all)-12 {
			continue
		}
		for _, i := range moves() {
			exact, near, one, any := reached(all, p, i)
			error := api.OK
			if !one {
				error = api.ErrPitch
			}
			if q, e := interval.Exact(p, i); q != exact || e != error {
				t.Fatalf("Exact(%v, %v) = %v, error %d; want %v, error %d", p, i, q, e, exact, error)
			}
			if error = api.OK; !any {
				error = api.ErrPitch
			}
			if q, e := interval.Transpose(p, i); q != near || e != error {
				t.Fatalf("Transpose(%v, %v) = %v, error %d; want %v, error %d", p, i, q, e, near, error)
			}
			if one && exact != near {
				t.Fatalf("%v, %v: %v and %v", p, i, exact, near)
			}
		}
	}
}

func TestP6_2ExactOfBetween(t *testing.T) {
	all := pitches()
	for _, p := range all {
		for _, q := range all {
			i, _ := interval.Between(p, q)
			if r, e := interval.Exact(p, i); r != q || e != api.OK {
				t.Fatalf("Exact(%v, %v) = %v, error %d; want %v", p, i, r, e, q)
			}
		}
	}
}

func TestP6_2AndP6_3Errors(t *testing.T) {
	for name, f := range map[string]func(api.Pitch, api.Interval) (api.Pitch, api.Errno){"Exact": interval.Exact, "Transpose": interval.Transpose} {
		for _, p := range missing {
			for _, i := range append([]api.Interval{of(0, 0), of(4, 7)}, wrong...) {
				if q, e := f(p, i); q != (api.Pitch{}) || e != api.ErrPitch {
					t.Errorf("%s(%v, %v) = %v, error %d", name, p, i, q, e)
				}
			}
		}
		for _, p := range []api.Pitch{at(0, 0, 4), at(0, 0, -1), at(4, 0, 9)} {
			for _, i := range wrong {
				if q, e := f(p, i); q != (api.Pitch{}) || e != api.ErrRange {
					t.Errorf("%s(%v, %v) = %v, error %d", name, p, i, q, e)
				}
			}
		}
	}
}

func TestP6_3Examples(t *testing.T) {
	for _, c := range []struct {
		p           api.Pitch
		i           api.Interval
		want        api.Pitch
		exact, near api.Errno
	}{
		{at(3, 2, 4), of(0, 1), at(4, 1, 4), api.ErrPitch, api.OK},
		{at(0, 0, 4), of(2, 3), at(2, -1, 4), api.OK, api.OK},
		{at(2, -1, 4), of(-2, -3), at(0, 0, 4), api.OK, api.OK},
		{at(6, 0, 4), of(1, 2), at(0, 1, 5), api.OK, api.OK},
		{at(0, 0, 4), of(-1, -1), at(6, 0, 3), api.OK, api.OK},
		{at(1, -2, 4), of(0, -1), at(0, -1, 4), api.ErrPitch, api.OK},
		{at(0, 0, 4), of(30, 0), at(1, -2, 4), api.ErrPitch, api.OK},
		{at(0, 0, 4), of(-30, 0), at(6, 1, 3), api.ErrPitch, api.OK},
		{at(4, 0, 9), of(1, 0), at(5, -2, 9), api.OK, api.OK},
		{at(4, 0, 9), of(2, 0), at(5, -2, 9), api.ErrPitch, api.OK},
		{at(4, 0, 9), of(0, 1), at(0, 0, 0), api.ErrPitch, api.ErrPitch},
		{at(0, 0, -1), of(0, -1), at(0, 0, 0), api.ErrPitch, api.ErrPitch},
		{at(0, 1, -1), of(-1, -1), at(0, 0, -1), api.ErrPitch, api.OK},
	} {
		want := c.want
		if c.near != api.OK {
			want = api.Pitch{}
		}
		if q, e := interval.Transpose(c.p, c.i); q != want || e != c.near {
			t.Errorf("Transpose(%v, %v) = %v, error %d; want %v, error %d", c.p, c.i, q, e, want, c.near)
		}
		if c.exact != api.OK {
			want = api.Pitch{}
		}
		if q, e := interval.Exact(c.p, c.i); q != want || e != c.exact {
			t.Errorf("Exact(%v, %v) = %v, error %d; want %v, error %d", c.p, c.i, q, e, want, c.exact)
		}
	}
}

func TestP6_4Enharmonics(t *testing.T) {
	all := pitches()
	for _, p := range all {
		want := slices.DeleteFunc(slices.Clone(all), func(q api.Pitch) bool { return number(q) != number(p) })
		if l, e := interval.Enharmonics(p); !slices.Equal(l, want) || e != api.OK {
			t.Errorf("Enharmonics(%v) = %v, error %d; want %v", p, l, e, want)
		}
	}
	for _, p := range missing {
		if l, e := interval.Enharmonics(p); len(l) != 0 || e != api.ErrPitch {
			t.Errorf("Enharmonics(%v) = %v, error %d", p, l, e)
		}
	}
	l, e := interval.Enharmonics(at(0, 1, 4))
	if !slices.Equal(l, []api.Pitch{at(6, 2, 3), at(0, 1, 4), at(1, -1, 4)}) || e != api.OK {
		t.Error(l, e)
	}
	clear(l)
	if again, _ := interval.Enharmonics(at(0, 1, 4)); again[0] != at(6, 2, 3) {
		t.Error("a change of the result changes the next one")
	}
}

func TestP6_8ExactIsAnAction(t *testing.T) {
	few := []api.Interval{of(0, 0), of(4, 7), of(-2, -3), of(1, 1), of(3, 6), of(-7, -12), of(0, 1), of(0, -1), of(1, 0)}
	for _, p := range pitches() {
		if q, e := interval.Exact(p, of(0, 0)); q != p || e != api.OK {
			t.Errorf("Exact(%v, 0) = %v, error %d", p, q, e)
		}
		for _, a := range few {
			q, e := interval.Exact(p, a)
			for _, b := range few {
				sum, _ := interval.Add(a, b)
				r, f := interval.Exact(q, b)
				if s, g := interval.Exact(p, sum); e == api.OK && f == api.OK && (s != r || g != api.OK) {
					t.Errorf("%v + %v + %v = %v, but %v", p, a, b, r, s)
				}
			}
		}
	}
}

func TestP6_8TransposeKeepsNumbers(t *testing.T) {
	for _, p := range pitches() {
		for _, i := range moves() {
			n := number(p) + i.Semitones
			q, e := interval.Transpose(p, i)
			if n < 0 || n > 127 {
				if e != api.ErrPitch {
					t.Fatalf("Transpose(%v, %v) = %v, error %d", p, i, q, e)
				}
			} else if e != api.OK || number(q) != n {
				t.Fatalf("Transpose(%v, %v) = %v, error %d; want the number %d", p, i, q, e, n)
			}
		}
	}
}
