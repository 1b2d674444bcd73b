package measure_test

import (
	"math"
	"testing"

	"hemiola/api"
	"hemiola/measure"
	"hemiola/metre"
)

// same reports whether two results are the same; with an error, the measure must be zero.
func same(a api.Measure, e api.Errno, b api.Measure, f api.Errno) bool {
	return e == f && equal(a, b) && (e == api.OK || equal(a, api.Measure{}))
}

func TestP13_5Blank(t *testing.T) {
	four, three := signature("4/4"), signature("3/4")
	for i, c := range []struct {
		metre                  api.Metre
		length, fifths, staves int
		want                   int
		e                      api.Errno
	}{
		{four, 0, 0, 1, 0, api.OK}, {four, whole, 0, 1, 0, api.OK}, {three, whole, -7, 3, whole, api.OK}, {three, 3 * quarter, 7, 2, 0, api.OK}, {four, quarter, 1, 128, quarter, api.OK}, {four, 8 * whole, 0, 1, 8 * whole, api.OK}, {signature("8/1"), 8 * whole, 0, 1, 0, api.OK}, {signature("64/1"), whole, 0, 1, whole, api.OK},
		{four, 0, 8, 1, 0, api.ErrRange}, {four, 0, -8, 1, 0, api.ErrRange}, {four, 0, 0, 0, 0, api.ErrRange}, {four, 0, 0, 129, 0, api.ErrRange}, {four, 0, 0, -1, 0, api.ErrRange}, {four, 0, 0, math.MaxInt, 0, api.ErrRange}, {four, 0, math.MinInt, 1, 0, api.ErrRange},
		{four, -1, 0, 1, 0, api.ErrRange}, {four, 1, 8, 0, 0, api.ErrTick}, {four, 9 * whole, 8, 0, 0, api.ErrLong}, {signature("9/1"), 0, 0, 0, 0, api.ErrLong}, {signature("9/1"), 9 * whole, 0, 1, 0, api.ErrLong}, {api.Metre{Count: 1, Unit: 5}, 1, 8, 0, 0, api.ErrValue}, {api.Metre{Count: 4, Unit: 4, Groups: [6]int{1}}, 0, 0, 1, 0, api.ErrMetre}, {api.Metre{}, 0, 0, 1, 0, api.ErrRange},
	} {
		want := api.Measure{}
		if c.e == api.OK {
			want = api.Measure{Metre: c.metre, Length: c.want, Fifths: c.fifths}
			for range c.staves {
				want.Cells = append(want.Cells, readCell("R"))
			}
		}
		got, e := measure.Blank(c.metre, c.length, c.fifths, c.staves)
		if !same(got, e, want, c.e) {
			t.Errorf("%d: Blank(%v, %d, %d, %d) = %v, error %d; want error %d", i, c.metre, c.length, c.fifths, c.staves, got, e, c.e)
		}
		if e == api.OK && measure.Check(got, c.staves) != api.OK {
			t.Errorf("%d: Blank(%v, %d, %d, %d) is not valid", i, c.metre, c.length, c.fifths, c.staves)
		}
	}
	m, _ := measure.Blank(four, 0, 0, 2)
	m.Cells[0].Voices[0].Events[0].Kind = 9
	if again, _ := measure.Blank(four, 0, 0, 2); m.Cells[1].Voices[0].Events[0].Kind != api.MeasureRest || again.Cells[0].Voices[0].Events[0].Kind != api.MeasureRest {
		t.Error("the cells of Blank are not independent")
	}
}

func TestP13_6SetVoice(t *testing.T) {
	m := read("3/4", "1=C4:2. | 2=r:2.", "3=R")
	bad := api.Voice{Tuplets: []api.Tuplet{{Count: 3, Actual: 3, Normal: 2}}}
	with := func(text string) func(m *api.Measure) {
		return func(m *api.Measure) { m.Cells[0] = readCell(text) }
	}
	for i, c := range []struct {
		change       func(m *api.Measure)
		staff, voice int
		v            api.Voice
		want         []string
		e            api.Errno
	}{
		{nil, 0, 0, readCell("4=D4:2.").Voices[0], []string{"4=D4:2. | 2=r:2.", "3=R"}, api.OK}, {nil, 0, 1, readCell("4=D4:2 r:4").Voices[0], []string{"1=C4:2. | 4=D4:2 r:4", "3=R"}, api.OK}, {nil, 1, 1, readCell("4=D4:2.").Voices[0], []string{"1=C4:2. | 2=r:2.", "3=R | 4=D4:2."}, api.OK}, {nil, 1, 0, readCell("4=R").Voices[0], []string{"1=C4:2. | 2=r:2.", "4=R"}, api.OK},
		{nil, 0, 1, api.Voice{}, []string{"1=C4:2.", "3=R"}, api.OK}, {nil, 1, 1, api.Voice{}, []string{"1=C4:2. | 2=r:2.", "3=R"}, api.OK}, {nil, 0, 1, bad, []string{"1=C4:2.", "3=R"}, api.OK},
		// Absent voices are added before it, and those at the end are removed.
		{func(m *api.Measure) { m.Cells[0].Voices = nil }, 0, 1, readCell("4=R").Voices[0], []string{" | 4=R", "3=R"}, api.OK}, {with(" | 2=R"), 0, 0, readCell("4=R").Voices[0], []string{"4=R | 2=R", "3=R"}, api.OK}, {with("1=R |  | "), 0, 0, readCell("4=R").Voices[0], []string{"4=R", "3=R"}, api.OK}, {with("1=R | 2=R |"), 0, 1, api.Voice{}, []string{"1=R", "3=R"}, api.OK}, {with("1=R | 2=R | 5=R"), 0, 1, api.Voice{}, []string{"1=R |  | 5=R", "3=R"}, api.OK},
		{with("1=r:4 | 2=R"), 0, 1, readCell("4=R").Voices[0], []string{"1=r:4 | 4=R", "3=R"}, api.OK},
		{nil, 2, 0, readCell("R").Voices[0], nil, api.ErrRange}, {nil, -1, 0, readCell("R").Voices[0], nil, api.ErrRange}, {nil, 0, 2, readCell("R").Voices[0], nil, api.ErrRange}, {nil, 0, -1, api.Voice{}, nil, api.ErrRange}, {with("R | R | R"), 0, 2, readCell("R").Voices[0], nil, api.ErrRange}, {nil, math.MaxInt, math.MinInt, readCell("r:1").Voices[0], nil, api.ErrRange},
		{nil, 0, 0, api.Voice{}, nil, api.ErrState}, {nil, 1, 0, bad, nil, api.ErrState}, {nil, 2, 0, bad, nil, api.ErrRange},
		{nil, 0, 0, readCell("r:1").Voices[0], nil, api.ErrLength}, {nil, 0, 1, readCell("R R").Voices[0], nil, api.ErrKind}, {nil, 0, 1, readCell("(3:2 r:8 r:8 ) r:2 r:4").Voices[0], nil, api.ErrTuplet}, {nil, 2, 0, readCell("r:1").Voices[0], nil, api.ErrRange},
		{func(m *api.Measure) { m.Length = -1 }, 9, 9, api.Voice{}, nil, api.ErrRange}, {func(m *api.Measure) { m.Length = 1 }, 9, 9, api.Voice{}, nil, api.ErrTick}, {func(m *api.Measure) { m.Metre.Unit = 0 }, 0, 0, api.Voice{}, nil, api.ErrValue},
	} {
		old := m
		if c.change != nil {
			old = changed(m, c.change)
		}
		want := api.Measure{}
		if c.e == api.OK {
			want = read("3/4", c.want...)
		}
		kept := copied(old)
		got, e := measure.SetVoice(old, c.staff, c.voice, c.v)
		if !same(got, e, want, c.e) || !equal(old, kept) {
			t.Errorf("%d: SetVoice(%v, %d, %d, %v) = %v, error %d; want %v, error %d", i, kept, c.staff, c.voice, c.v, got, e, c.want, c.e)
		}
	}
}

// TestP13_6Absent tests that no voice is left if none is present.
func TestP13_6Absent(t *testing.T) {
	for i, voices := range [][]api.Voice{nil, {{}}, {{}, {}}, {{}, readCell("R").Voices[0]}} {
		m := read("4/4", "R")
		m.Cells = append(m.Cells, api.Cell{Clefs: []api.ClefChange{{At: 5, Clef: 2}}, Voices: voices})
		want := changed(m, func(m *api.Measure) { m.Cells[1].Voices = nil })
		if got, e := measure.SetVoice(m, 1, 1, api.Voice{}); !same(got, e, want, api.OK) {
			t.Errorf("%d: SetVoice(%v) = %v, error %d", i, m, got, e)
		}
	}
}

func TestP13_6Independent(t *testing.T) {
	measures(t, 2000, func(r source, m api.Measure) {
		length, f := lengthOf(m)
		if f != api.OK || len(m.Cells) == 0 {
			return
		}
		v, staff := r.voice(length), r.Intn(len(m.Cells))
		kept := copiedVoice(v)
		got, e := measure.SetVoice(m, staff, r.Intn(2), v)
		if e != api.OK {
			t.Fatalf("SetVoice(%v, %v): error %d", m, v, e)
		}
		for i := range m.Cells {
			if i != staff && !measure.EqualCell(got.Cells[i], m.Cells[i]) {
				t.Fatalf("SetVoice changed the staff %d of %v", i, m)
			}
		}
		spoil(got)
		if !equal(api.Measure{Cells: []api.Cell{{Voices: []api.Voice{v}}}}, api.Measure{Cells: []api.Cell{{Voices: []api.Voice{kept}}}}) {
			t.Fatalf("SetVoice shares the voice %v", v)
		}
	})
}

func TestP13_7Fit(t *testing.T) {
	pickup := func(length int, cells ...string) api.Measure {
		m := read("4/4", cells...)
		m.Length = length
		return m
	}
	for i, c := range []struct {
		m      api.Measure
		metre  string
		length int
		want   []string
		e      api.Errno
	}{
		{read("3/4", "1=C4:2 2=C4:4 | 3=C4:2."), "2/4", 0, []string{"1=C4:2 | 3=C4:2~"}, api.OK}, {read("3/4", "1=C4:2 2=C4:4 | 3=C4:2."), "4/4", 0, []string{"1=C4:2 2=C4:4 r:4 | 3=C4:2. r:4"}, api.OK}, {read("3/4", "1=C4:2 2=C4:4 | 3=C4:2."), "6/8", 0, []string{"1=C4:2 2=C4:4 | 3=C4:2."}, api.OK}, {read("3/4", "1=C4:2 2=C4:4"), "4/4", 3 * quarter, []string{"1=C4:2 2=C4:4"}, api.OK},
		// Measure rests stay as they are, and so do voices that are absent.
		{read("3/4", "1=R", "2=r:2. | 3=R", "4=R | "), "2/4", 0, []string{"1=R", "2=r:2 | 3=R", "4=R | "}, api.OK}, {read("3/4", "1=R", "2=r:2. | 3=R", " | 4=C4:2."), "4/4", 0, []string{"1=R", "2=r:2. r:4 | 3=R", " | 4=C4:2. r:4"}, api.OK}, {read("4/4", "R R", "C4:1"), "4/4", 0, []string{"R R", "C4:1"}, api.OK},
		// The voice is divided in the old place, and rests are those of the new one.
		{read("6/8", "1=C4:2."), "5/8", 0, []string{"1=C4:4.~ C4:4~"}, api.OK}, {read("3/4", "1=C4:2."), "5/8", 0, []string{"1=C4:4~ C4:4.~"}, api.OK}, {read("4/4", "1=C4:1"), "4/4", 3 * quarter, []string{"1=C4:2.~"}, api.OK}, {pickup(3*quarter, "1=C4:4 2=C4:2"), "4/4", half, []string{"1=C4:4 2=C4:4~"}, api.OK}, {pickup(3*quarter, "1=C4:2."), "4/4", 5 * eighth, []string{"1=C4:4~ C4:4.~"}, api.OK},
		{pickup(quarter, "1=C4:4"), "4/4", 0, []string{"1=C4:4 r:4 r:2"}, api.OK}, {pickup(quarter, "1=C4:4"), "4/4", half, []string{"1=C4:4 r:4"}, api.OK}, {pickup(eighth, "1=C4:8"), "4/4", 5 * eighth, []string{"1=C4:8 r:2"}, api.OK}, {pickup(quarter, "1=C4:4"), "6/8", 0, []string{"1=C4:4 r:8 r:4."}, api.OK}, {pickup(quarter, "1=C4:4~"), "6/8", 5 * eighth, []string{"1=C4:4~ r:4."}, api.OK}, {pickup(quarter, "1=C4:4"), "6/8", half, []string{"1=C4:4 r:4"}, api.OK}, {pickup(eighth, "1=C4:8"), "6/8", half, []string{"1=C4:8 r:4."}, api.OK}, {read("4/4", "1=C4:1"), "3/4", 5 * quarter, []string{"1=C4:1 r:4"}, api.OK},
		{read("4/4", "1=C4:2 (3:2 2=C4:8 3=C4:8 4=C4:8 ) 5=r:4"), "3/4", 0, []string{"1=C4:2 (3:2 2=C4:8 3=C4:8 4=C4:8 )"}, api.OK}, {read("4/4", "1=C4:2. (3:2 2=C4:8 3=C4:8 4=C4:8 )"), "5/4", 0, []string{"1=C4:2. (3:2 2=C4:8 3=C4:8 4=C4:8 ) r:4"}, api.OK}, {read("4/4", "1=C4:2. (3:2 2=C4:8 3=C4:8 4=C4:8 )"), "3/4", 0, []string{"1=C4:2."}, api.OK},
		{read("4/4", "1=C4:2. (3:2 2=C4:8 3=C4:8 4=C4:8 )"), "4/4", 7 * eighth, nil, api.ErrFit}, {read("4/4", "1=R", "2=C4:2", "3=R R"), "3/4", 0, nil, api.ErrLength}, {read("4/4", "1=R", "2=C4:2", "3=R R"), "5/4", 0, nil, api.ErrLength}, {read("4/4", "1=C4:1 | 3=R R"), "5/4", 0, nil, api.ErrKind}, {read("4/4", "1=C4:1 | 3=R R"), "3/4", 0, nil, api.ErrKind}, {read("4/4", "1=C4:2 | 3=R R"), "3/4", 0, nil, api.ErrLength},
	} {
		want := api.Measure{}
		if c.e == api.OK {
			want = read(c.metre, c.want...)
			want.Length = c.length
		}
		if got, e := measure.Fit(c.m, signature(c.metre), c.length); !same(got, e, want, c.e) {
			t.Errorf("%d: Fit(%v, %s, %d) = %v, error %d; want %v, error %d", i, c.m, c.metre, c.length, got, e, want, c.e)
		}
	}
}

func TestP13_7Length(t *testing.T) {
	m := read("4/4", "R")
	for i, c := range []struct {
		old    int
		metre  api.Metre
		length int
		want   int
		e      api.Errno
	}{
		{0, signature("4/4"), whole, 0, api.OK}, {whole, signature("4/4"), whole, 0, api.OK}, {quarter, signature("3/4"), 0, 0, api.OK}, {0, signature("3/4"), whole, whole, api.OK}, {0, signature("3/4"), quarter, quarter, api.OK}, {0, signature("64/1"), 8 * whole, 8 * whole, api.OK},
		{0, signature("9/1"), 0, 0, api.ErrLong}, {0, signature("4/4"), -1, 0, api.ErrRange}, {0, signature("4/4"), 1, 0, api.ErrTick}, {0, signature("4/4"), 9 * whole, 0, api.ErrLong}, {0, api.Metre{Count: 4, Unit: 7}, -1, 0, api.ErrValue}, {0, api.Metre{Count: 4, Unit: 4, Groups: [6]int{0, 4}}, 0, 0, api.ErrMetre},
		// The errors of the measure come first.
		{1, api.Metre{Count: 4, Unit: 7}, 0, 0, api.ErrTick}, {-1, api.Metre{Count: 4, Unit: 7}, 0, 0, api.ErrRange}, {9 * whole, signature("4/4"), 1, 0, api.ErrLong},
	} {
		old := changed(m, func(m *api.Measure) { m.Length = c.old })
		want := api.Measure{}
		if c.e == api.OK {
			want = changed(m, func(m *api.Measure) { m.Metre, m.Length = c.metre, c.want })
		}
		if got, e := measure.Fit(old, c.metre, c.length); !same(got, e, want, c.e) {
			t.Errorf("%d: Fit(%v, %v, %d) = %v, error %d; want %v, error %d", i, old, c.metre, c.length, got, e, want, c.e)
		}
	}
}

// TestP13_7Marks tests what Fit leaves, and the clef changes and tempo marks that it removes.
func TestP13_7Marks(t *testing.T) {
	m := read("4/4", "@0=2 @967679=3 @967680=4 @967681=5 R", "@-5=9 @1935360=1 R")
	m.Fifths, m.RepeatStart, m.RepeatEnd, m.Endings, m.Jump, m.Labels, m.Swing, m.Break, m.Rehearsal = 3, true, 2, 1, 4, 5, 60, 2, "A"
	m.Tempi = []api.TempoMark{{At: half, Micros: 1}, {At: half - 1, Micros: 2, Ramp: true}, {At: half + 1}, {At: -1, Micros: 4}}
	want := changed(m, func(m *api.Measure) {
		m.Metre = signature("2/4")
		m.Cells[0].Clefs, m.Cells[1].Clefs = m.Cells[0].Clefs[:2], m.Cells[1].Clefs[:1]
		m.Tempi = []api.TempoMark{{At: half - 1, Micros: 2, Ramp: true}, {At: -1, Micros: 4}}
	})
	if got, e := measure.Fit(m, signature("2/4"), 0); !same(got, e, want, api.OK) {
		t.Errorf("Fit to 2/4 = %v, error %d; want %v", got, e, want)
	}
	want = changed(m, func(m *api.Measure) {
		m.Metre, m.Length = signature("2/4"), whole
		m.Cells[1].Clefs = m.Cells[1].Clefs[:1]
	})
	if got, e := measure.Fit(m, signature("2/4"), whole); !same(got, e, want, api.OK) {
		t.Errorf("Fit to 2/4 with the length of 4/4 = %v, error %d; want %v", got, e, want)
	}
	want = changed(m, func(m *api.Measure) { m.Metre = signature("5/4") })
	if got, e := measure.Fit(m, signature("5/4"), 0); !same(got, e, want, api.OK) {
		t.Errorf("Fit to 5/4 = %v, error %d; want %v", got, e, want)
	}
}

func TestP13_7AtRandom(t *testing.T) {
	found := map[api.Errno]int{}
	measures(t, 8000, func(r source, m api.Measure) {
		sign := r.signature()
		if r.Intn(2) == 0 {
			sign = m.Metre
		}
		length := r.length(signature("4/4"))
		got, e := measure.Fit(m, sign, length)
		if want, f := fitOf(m, sign, length); !same(got, e, want, f) {
			t.Fatalf("Fit(%v, %v, %d) = %v, error %d; want %v, error %d", m, sign, length, got, e, want, f)
		}
		if e == api.OK && measure.Check(m, len(m.Cells)) == api.OK && measure.Check(got, len(m.Cells)) != api.OK {
			t.Fatalf("Fit(%v, %v, %d) = %v, which is not valid", m, sign, length, got)
		}
		found[e]++
		spoil(got)
	})
	for _, e := range []api.Errno{api.OK, api.ErrRange, api.ErrTick, api.ErrLong, api.ErrFit, api.ErrLength, api.ErrLimit} {
		if found[e] < 10 {
			t.Errorf("the error %d was tested only %d times", e, found[e])
		}
	}
}

func TestP13_10FitBack(t *testing.T) {
	longer, beyond := 0, 0
	measures(t, 6000, func(r source, m api.Measure) {
		length, _ := lengthOf(m)
		if measure.Check(m, len(m.Cells)) != api.OK {
			return
		}
		if got, e := measure.Fit(m, m.Metre, length); e != api.OK || !equal(got, normal(m, length)) {
			t.Fatalf("Fit of %v to its own length = %v, error %d", m, got, e)
		}
		sign := pick(r, r.signature(), signature("64/1"))
		long := pick(r, length+finest*(1+r.Intn(300)), 8*whole)
		wide, e := measure.Fit(m, sign, long)
		if e != api.OK || long <= length {
			return
		}
		back, e := measure.Fit(wide, m.Metre, length)
		place, _ := measure.Place(wide)
		if place.Offset > 8*whole {
			beyond++
			if e != api.ErrRange && !onlyRests(m) {
				t.Fatalf("Fit of %v back to %v, %d = %v, error %d", wide, m.Metre, length, back, e)
			}
			return
		}
		longer++
		if e != api.OK || !equal(back, normal(m, length)) {
			t.Fatalf("Fit of %v to %v, %d, and back = %v, error %d", m, sign, long, back, e)
		}
	})
	if longer < 300 || beyond < 100 {
		t.Errorf("%d measures were fitted back, and %d were too far beyond", longer, beyond)
	}
}

// normal returns a measure whose Length is 0 if it is that of its time signature.
func normal(m api.Measure, length int) api.Measure {
	if usual, _ := metre.Length(m.Metre); length == usual {
		m.Length = 0
	}
	return m
}

// onlyRests reports whether all voices are single measure rests, which Fit does not cut.
func onlyRests(m api.Measure) bool {
	for _, c := range m.Cells {
		for _, v := range c.Voices {
			if len(v.Events) > 0 && v.Events[0].Kind != api.MeasureRest {
				return false
			}
		}
	}
	return true
}
