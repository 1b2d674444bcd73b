package metre_test

import (
	"math"
	"math/rand"
	"slices"
	"strings"
	"testing"

	"hemiola/api"
	"hemiola/duration"
	"hemiola/metre"
)

// shown returns the texts of note values.
func shown(l []api.Value) string {
	var words []string
	for _, v := range l {
		s, _ := duration.Text(v)
		words = append(words, s)
	}
	return strings.Join(words, " ")
}

func TestP4_5Split(t *testing.T) {
	common, waltz, compound, uneven := of(4, 4), of(3, 4), of(6, 8), of(7, 8, 2, 2, 3)
	for _, c := range []struct {
		m        api.Metre
		from, to int // sixteenths
		want     string
	}{
		{common, 0, 0, ""}, {common, 5, 5, ""},
		{common, 0, 16, "1"}, {common, 0, 12, "2."}, {common, 4, 16, "4 2"}, {common, 0, 14, "2.."}, {common, 0, 15, "2 4.."}, {common, 0, 20, "1 4"},
		{common, 2, 6, "8 8"}, {common, 2, 8, "8 4"}, {common, 2, 4, "8"}, {common, 1, 3, "16 16"}, {common, 4, 12, "4 4"}, {common, 4, 10, "4 8"},
		{common, 0, 6, "4."}, {common, 0, 10, "2 8"}, {common, 8, 14, "4."}, {common, 8, 16, "2"}, {common, 6, 12, "8 4"}, {common, 12, 16, "4"},
		{common, 14, 18, "8 8"}, {common, 8, 24, "2 2"}, {common, 16, 48, "b"}, {common, 16, 40, "1."}, {common, 0, 128, "1 1 1 1 1 b."}, {common, 0, 60, "1 1 1.."},
		{compound, 0, 12, "2."}, {compound, 0, 8, "4. 8"}, {compound, 4, 8, "8 8"}, {compound, 2, 6, "4"}, {compound, 0, 4, "4"}, {compound, 0, 10, "4. 4"}, {compound, 4, 10, "8 4"}, {compound, 0, 3, "8."}, {compound, 0, 24, "1."},
		{waltz, 0, 12, "2."}, {waltz, 4, 12, "2"}, {waltz, 0, 8, "2"}, {waltz, 2, 10, "8 4."}, {waltz, 0, 10, "4 4."}, {waltz, 8, 16, "4 4"}, {waltz, 0, 3, "8."}, {waltz, 1, 4, "16 8"}, {waltz, 1, 5, "16 8 16"},
		{uneven, 0, 14, "2.."}, {uneven, 0, 8, "2"}, {uneven, 4, 14, "4 4."}, {uneven, 8, 14, "4."}, {uneven, 0, 12, "2."}, {uneven, 0, 10, "4 4."}, {uneven, 6, 10, "8 8"},
		{of(1, 64), 0, 128, strings.Repeat("64 ", 288) + "b.."},
		{of(64, 1), 0, 128, "1 1 1 1 1 b."}, {of(64, 1), 16, 80, "1 b."},
	} {
		if l, e := metre.Split(c.m, c.from*sixteenth, c.to*sixteenth); shown(l) != c.want || e != api.OK {
			t.Errorf("Split(%v) from %d to %d = %s, error %d; want %s", c.m, c.from, c.to, shown(l), e, c.want)
		}
	}
	if l, e := metre.Split(common, 7560, 3*7560); shown(l) != "256 256" || e != api.OK {
		t.Errorf("Split of two 256ths = %s, error %d", shown(l), e)
	}
	if l, e := metre.Split(common, 2*7560, 3*7560); shown(l) != "256" || e != api.OK {
		t.Errorf("Split of a 256th = %s, error %d", shown(l), e)
	}
}

// splitOf divides a duration as the chapter defines it.
func splitOf(m api.Metre, from, to int) []api.Value {
	v, e := duration.Find(to - from)
	isSimple, best := e == api.OK && v.Dots <= 2, -1
	for at := from + 7560; at < to; at += 7560 {
		level := levelOf(m, at)
		if level < levelOf(m, from) || v.Dots == 0 && level < levelOf(m, to) {
			isSimple = false
		}
		if best < 0 || level < levelOf(m, best) {
			best = at
		}
	}
	if isSimple {
		return []api.Value{v}
	}
	return append(splitOf(m, from, best), splitOf(m, best, to)...)
}

// spans calls a test with many durations of many time signatures, from short ones to those of several measures.
func spans(test func(m api.Metre, from, to int)) {
	r := rand.New(rand.NewSource(4))
	all := append(signatures(), of(4, 4), of(3, 4), of(6, 8), of(12, 8), of(7, 8, 2, 2, 3))
	for i := range 3000 {
		m := all[r.Intn(len(all))]
		if i%3 == 0 {
			m = all[len(all)-1-r.Intn(5)]
		}
		grain := 7560 << r.Intn(7)
		length, _ := metre.Length(m)
		from := r.Intn(2*length/grain+1) * grain
		test(m, from, from+r.Intn(min(33, metre.MaxSpan/grain))*grain)
	}
}

func TestP4_5SplitAtRandom(t *testing.T) {
	spans(func(m api.Metre, from, to int) {
		var want []api.Value
		if from < to {
			want = splitOf(m, from, to)
		}
		if l, e := metre.Split(m, from, to); e != api.OK || !slices.Equal(l, want) {
			t.Fatalf("Split(%v, %d, %d) = %s, error %d; want %s", m, from, to, shown(l), e, shown(want))
		}
	})
}

func TestP4_5Errors(t *testing.T) {
	last := api.MaxTime / 7560 * 7560
	m := of(4, 4)
	for _, c := range []struct {
		m        api.Metre
		from, to int
		e        api.Errno
	}{
		{m, -7560, 7560, api.ErrRange}, {m, 7560, 0, api.ErrRange}, {m, 0, last + 7560, api.ErrRange}, {m, 0, api.MaxTime + 1, api.ErrRange}, {m, -1, -1, api.ErrRange}, {m, math.MinInt, math.MaxInt, api.ErrRange}, {m, math.MaxInt, math.MaxInt, api.ErrRange}, {m, math.MinInt, 0, api.ErrRange}, {m, 1, 0, api.ErrRange},
		{m, 1, 7560, api.ErrTick}, {m, 0, 7559, api.ErrTick}, {m, 1, 1, api.ErrTick}, {m, 3780, 7560, api.ErrTick}, {m, 0, api.MaxTime, api.ErrTick}, {m, 945, metre.MaxSpan + 7560, api.ErrTick},
		{m, 0, metre.MaxSpan + 7560, api.ErrLong}, {m, 0, last, api.ErrLong}, {m, 7560, metre.MaxSpan + 2*7560, api.ErrLong},
		{m, 0, metre.MaxSpan, api.OK}, {m, last - metre.MaxSpan, last, api.OK}, {m, last, last, api.OK},
		{of(4, 4, 4), -1, 0, api.ErrMetre}, {of(0, 4), 1, 1, api.ErrRange}, {of(4, 6), 1, 1, api.ErrValue}, {of(4, 4, 4), 0, metre.MaxSpan + 7560, api.ErrMetre},
	} {
		if l, e := metre.Split(c.m, c.from, c.to); e != c.e || e != api.OK && len(l) != 0 {
			t.Errorf("Split(%v, %d, %d) = %s, error %d; want error %d", c.m, c.from, c.to, shown(l), e, c.e)
		}
	}
}

// TestP4_7Split tests what follows for the note values of a duration.
func TestP4_7Split(t *testing.T) {
	spans(func(m api.Metre, from, to int) {
		l, _ := metre.Split(m, from, to)
		length, _ := metre.Length(m)
		at := from
		for i, v := range l {
			ticks, _ := duration.Ticks(v)
			if v.Dots > 2 || at%length != 0 && at/length != (at+ticks-1)/length {
				t.Fatalf("Split(%v, %d, %d) = %s: %d crosses a barline, or has too many dots", m, from, to, shown(l), i)
			}
			at += ticks
			if rest, e := metre.Split(m, at, to); e != api.OK || !slices.Equal(rest, l[i+1:]) {
				t.Fatalf("Split(%v, %d, %d) = %s, but from %d on %s", m, from, to, shown(l), at, shown(rest))
			}
		}
		if at != to {
			t.Fatalf("Split(%v, %d, %d) = %s lasts until %d", m, from, to, shown(l), at)
		}
	})
}

func TestP4_7Beats(t *testing.T) {
	for _, m := range signatures() {
		beats, _ := metre.Beats(m)
		groups, _ := metre.Groups(m)
		length, _ := metre.Length(m)
		for i, at := range beats {
			if i > 0 && at <= beats[i-1] {
				t.Errorf("Beats(%v) = %v are not increasing", m, beats)
			}
		}
		if last := len(beats) - 1; beats[last]+groups[last]*1935360/m.Unit != length {
			t.Errorf("the last beat of %v does not end with the measure", m)
		}
	}
}
