package pitch_test

import (
	"math"
	"strings"
	"testing"

	"hemiola/api"
	"hemiola/pitch"
)

func of(step, alter, octave int) api.Pitch {
	return api.Pitch{Step: step, Alter: alter, Octave: octave}
}

// keys are the keys of an octave of a keyboard, and line the line of fifths from F on.
const (
	keys = "C.D.EF.G.A.B"
	line = "FCGDAEB"
	abc  = "CDEFGAB"
)

// numberOf returns the number of a pitch whose fields are in their ranges.
func numberOf(p api.Pitch) int {
	return 12*(p.Octave+1) + strings.IndexByte(keys, abc[p.Step]) + p.Alter
}

// all returns all pitches, from the lowest steps on.
func all() []api.Pitch {
	var l []api.Pitch
	for octave := -1; octave <= 9; octave++ {
		for step := 0; step <= 6; step++ {
			for alter := -2; alter <= 2; alter++ {
				if p := of(step, alter, octave); numberOf(p) >= 0 && numberOf(p) <= 127 {
					l = append(l, p)
				}
			}
		}
	}
	return l
}

// missing are no pitches.
var missing = []api.Pitch{
	of(-1, 0, 4), of(7, 0, 4), of(0, -3, 4), of(0, 3, 4), of(0, 0, -2), of(0, 0, 10), of(6, 2, -2), of(0, -2, 10),
	// Their numbers are -2, -1, 128, 128, 129, 131 and 133.
	of(0, -2, -1), of(0, -1, -1), of(4, 1, 9), of(5, -1, 9), of(5, 0, 9), of(6, 0, 9), of(6, 2, 9),
	of(math.MinInt, 0, 4), of(math.MaxInt, 0, 4), of(0, math.MinInt, 4), of(0, math.MaxInt, 4), of(0, 0, math.MinInt), of(0, 0, math.MaxInt), of(0, 0, math.MaxInt/12), of(0, 0, 1<<62), of(math.MinInt, math.MaxInt, math.MinInt),
}

func TestP5_1Numbers(t *testing.T) {
	for _, p := range all() {
		if e := pitch.Check(p); e != api.OK {
			t.Errorf("Check(%v): error %d", p, e)
		}
		if n, e := pitch.Number(p); n != numberOf(p) || e != api.OK {
			t.Errorf("Number(%v) = %d, error %d", p, n, e)
		}
		if n, e := pitch.Diatonic(p); n != 7*p.Octave+p.Step || e != api.OK {
			t.Errorf("Diatonic(%v) = %d, error %d", p, n, e)
		}
		if n, e := pitch.Fifths(p); n != strings.IndexByte(line, abc[p.Step])-1+7*p.Alter || e != api.OK {
			t.Errorf("Fifths(%v) = %d, error %d", p, n, e)
		}
	}
	for _, c := range []struct {
		p                        api.Pitch
		number, diatonic, fifths int
	}{
		{of(0, 0, 4), 60, 28, 0}, {of(0, 1, 4), 61, 28, 7}, {of(1, -1, 4), 61, 29, -5}, {of(3, 0, 4), 65, 31, -1}, {of(6, -1, 3), 58, 27, -2}, {of(5, 0, 4), 69, 33, 3},
		{of(0, 0, -1), 0, -7, 0}, {of(4, 0, 9), 127, 67, 1}, {of(3, -2, 4), 63, 31, -15}, {of(6, 2, 4), 73, 34, 19}, {of(6, 1, 3), 60, 27, 12}, {of(0, -1, 4), 59, 28, -7},
	} {
		n, _ := pitch.Number(c.p)
		d, _ := pitch.Diatonic(c.p)
		f, _ := pitch.Fifths(c.p)
		if n != c.number || d != c.diatonic || f != c.fifths {
			t.Errorf("%v: number %d, diatonic number %d, fifths %d; want %v", c.p, n, d, f, c)
		}
	}
}

func TestP5_1Missing(t *testing.T) {
	if pitch.MaxNumber != 127 {
		t.Error("MaxNumber is not that of the chapter")
	}
	for _, p := range missing {
		if e := pitch.Check(p); e != api.ErrPitch {
			t.Errorf("Check(%v): error %d", p, e)
		}
		for name, f := range map[string]func(api.Pitch) (int, api.Errno){"Number": pitch.Number, "Diatonic": pitch.Diatonic, "Fifths": pitch.Fifths} {
			if n, e := f(p); n != 0 || e != api.ErrPitch {
				t.Errorf("%s(%v) = %d, error %d", name, p, n, e)
			}
		}
	}
}

func TestP5_1Of(t *testing.T) {
	known := map[[2]int]api.Pitch{}
	for _, p := range all() {
		known[[2]int{7*p.Octave + p.Step, p.Alter}] = p
	}
	numbers := []int{math.MinInt, math.MinInt + 1, -1 << 32, 1 << 32, math.MaxInt - 1, math.MaxInt}
	for n := -100; n <= 200; n++ {
		numbers = append(numbers, n)
	}
	for _, diatonic := range numbers {
		for _, alter := range []int{math.MinInt, -3, -2, -1, 0, 1, 2, 3, math.MaxInt} {
			want, ok := known[[2]int{diatonic, alter}]
			if p, e := pitch.Of(diatonic, alter); p != want || ok && e != api.OK || !ok && e != api.ErrPitch {
				t.Errorf("Of(%d, %d) = %v, error %d; want %v", diatonic, alter, p, e, want)
			}
		}
	}
}

func TestP5_4Compare(t *testing.T) {
	order := func(a, b int) int {
		switch {
		case a < b:
			return -1
		case a > b:
			return 1
		}
		return 0
	}
	for _, a := range all() {
		for _, b := range all() {
			want := order(numberOf(a), numberOf(b))
			if want == 0 {
				want = order(7*a.Octave+a.Step, 7*b.Octave+b.Step)
			}
			if n := pitch.Compare(a, b); n != want {
				t.Fatalf("Compare(%v, %v) = %d; want %d", a, b, n, want)
			}
		}
		for _, b := range missing {
			if pitch.Compare(a, b) != 1 || pitch.Compare(b, a) != -1 {
				t.Errorf("Compare(%v, %v) = %d and %d", a, b, pitch.Compare(a, b), pitch.Compare(b, a))
			}
		}
	}
	for _, a := range missing {
		for _, b := range missing {
			if n := pitch.Compare(a, b); n != 0 {
				t.Errorf("Compare(%v, %v) = %d", a, b, n)
			}
		}
	}
}
