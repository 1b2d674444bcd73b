package measure_test

import (
	"math"
	"testing"

	"hemiola/api"
	"hemiola/clef"
	"hemiola/measure"
	"hemiola/voice"
)

// sized returns a measure without cells, with a time signature and a Length.
func sized(m api.Metre, length int) api.Measure { return api.Measure{Metre: m, Length: length} }

func TestP13_1Length(t *testing.T) {
	four := signature("4/4")
	for i, c := range []struct {
		m              api.Measure
		length, offset int
		e              api.Errno
	}{
		{sized(four, 0), whole, 0, api.OK}, {sized(signature("3/4"), 0), 3 * quarter, 0, api.OK}, {sized(signature("2+2+3/8"), 0), 7 * eighth, 0, api.OK}, {sized(signature("1/64"), 0), whole / 64, 0, api.OK}, {sized(signature("8/1"), 0), 8 * whole, 0, api.OK},
		{sized(four, quarter), quarter, 3 * quarter, api.OK}, {sized(four, finest), finest, whole - finest, api.OK}, {sized(four, whole), whole, 0, api.OK}, {sized(four, whole+finest), whole + finest, 0, api.OK}, {sized(four, 8*whole), 8 * whole, 0, api.OK}, {sized(signature("64/1"), 8*whole), 8 * whole, 56 * whole, api.OK}, {sized(signature("64/1"), finest), finest, 64*whole - finest, api.OK},
		{sized(four, -1), 0, 0, api.ErrRange}, {sized(four, -finest), 0, 0, api.ErrRange}, {sized(four, math.MinInt), 0, 0, api.ErrRange}, {sized(four, 1), 0, 0, api.ErrTick}, {sized(four, finest-1), 0, 0, api.ErrTick}, {sized(four, finest+1), 0, 0, api.ErrTick}, {sized(four, 8*whole+1), 0, 0, api.ErrTick}, {sized(four, math.MaxInt), 0, 0, api.ErrTick}, {sized(four, 8*whole+finest), 0, 0, api.ErrLong}, {sized(four, math.MaxInt/finest*finest), 0, 0, api.ErrLong}, {sized(signature("9/1"), 0), 0, 0, api.ErrLong}, {sized(signature("64/4"), 0), 0, 0, api.ErrLong},
		{sized(api.Metre{}, 0), 0, 0, api.ErrRange}, {sized(api.Metre{Count: 65, Unit: 3}, quarter), 0, 0, api.ErrRange}, {sized(api.Metre{Count: 4, Unit: 3}, -1), 0, 0, api.ErrValue}, {sized(api.Metre{Count: 4, Unit: 128}, 1), 0, 0, api.ErrValue}, {sized(api.Metre{Count: 4, Unit: 4, Groups: [6]int{4}}, -1), 0, 0, api.ErrMetre},
	} {
		if length, e := measure.Length(c.m); length != c.length || e != c.e {
			t.Errorf("%d: Length(%v) = %d, error %d; want %d, error %d", i, c.m, length, e, c.length, c.e)
		}
		want := voice.Place{}
		if c.e == api.OK {
			want = voice.Place{Metre: c.m.Metre, Offset: c.offset, Length: c.length}
		}
		if p, e := measure.Place(c.m); p != want || e != c.e {
			t.Errorf("%d: Place(%v) = %v, error %d; want %v, error %d", i, c.m, p, e, want, c.e)
		}
	}
}

func TestP13_2Check(t *testing.T) {
	good := read("3/4", "@0=2 @483840=3 C4:2 r:4 | r:2.", "R")
	cell := func(text string) func(m *api.Measure) {
		return func(m *api.Measure) { m.Cells[1] = readCell(text) }
	}
	for i, c := range []struct {
		change func(m *api.Measure)
		staves int
		e      api.Errno
	}{
		{func(m *api.Measure) {}, 2, api.OK}, {func(m *api.Measure) {}, 1, api.ErrLength}, {func(m *api.Measure) {}, 3, api.ErrLength}, {func(m *api.Measure) {}, -2, api.ErrLength}, {func(m *api.Measure) { m.Cells = nil }, 2, api.ErrLength}, {func(m *api.Measure) { m.Cells = nil }, 0, api.OK}, {func(m *api.Measure) { m.Cells = m.Cells[:1] }, 1, api.OK},
		{func(m *api.Measure) { m.Fifths = 7 }, 2, api.OK}, {func(m *api.Measure) { m.Fifths = -7 }, 2, api.OK}, {func(m *api.Measure) { m.Fifths = 8 }, 2, api.ErrRange}, {func(m *api.Measure) { m.Fifths = -8 }, 2, api.ErrRange}, {func(m *api.Measure) { m.Fifths = math.MinInt }, 3, api.ErrRange}, {func(m *api.Measure) { m.Fifths = 8; m.Metre = api.Metre{Count: 1} }, 3, api.ErrValue}, {func(m *api.Measure) { m.Length = -1; m.Fifths = 8 }, 2, api.ErrRange}, {func(m *api.Measure) { m.Length = 1; m.Fifths = 8 }, 2, api.ErrTick},
		{cell("@1451519=9 R"), 2, api.OK}, {cell("@1451520=9 R"), 2, api.ErrRange}, {cell("@-1=9 R"), 2, api.ErrRange}, {cell("@0=0 R"), 2, api.ErrKind}, {cell("@0=10 R"), 2, api.ErrKind}, {cell("@-1=10 R"), 2, api.ErrKind}, {cell("@5=1 @5=2 R"), 2, api.ErrOrder}, {cell("@5=1 @4=2 R"), 2, api.ErrOrder}, {cell("@5=1 @6=2 R"), 2, api.OK}, {cell("@5=1 @5=0 R"), 2, api.ErrKind}, {cell("@5=1 @-1=2 R"), 2, api.ErrRange}, {cell("@5=1 @4=2 @-1=2 R"), 2, api.ErrOrder}, {cell("@1451520=9 @0=0"), 2, api.ErrRange}, {cell("@0=0 R | R | R"), 2, api.ErrKind},
		{cell("R | R | R"), 2, api.ErrLimit}, {cell("R | |"), 2, api.ErrLimit}, {cell(" | R | R"), 2, api.ErrLimit}, {cell(" | R"), 2, api.ErrState}, {cell(""), 2, api.ErrState}, {func(m *api.Measure) { m.Cells[1].Voices = nil }, 2, api.ErrState}, {cell("R | R"), 2, api.OK}, {cell("R | "), 2, api.OK}, {cell("R | r:2"), 2, api.ErrLength},
		{cell("r:2"), 2, api.ErrLength}, {cell("r:1"), 2, api.ErrLength}, {cell("R r:2"), 2, api.ErrKind}, {cell("(3:2 r:8 r:8 ) r:2 r:4"), 2, api.ErrTuplet},
		// Tuplets without events are no voice.
		{func(m *api.Measure) { m.Cells[1].Voices = []api.Voice{{Tuplets: make([]api.Tuplet, 1)}} }, 2, api.ErrState}, {func(m *api.Measure) { m.Cells[0].Voices[1] = api.Voice{Tuplets: make([]api.Tuplet, 1)} }, 2, api.OK},
		// All errors of a cell come before those of the next one.
		{func(m *api.Measure) { m.Cells[0] = readCell("r:1"); m.Cells[1] = readCell("@0=0 R") }, 2, api.ErrLength}, {func(m *api.Measure) { m.Cells[0] = readCell("R R | r:1") }, 2, api.ErrKind}, {func(m *api.Measure) { m.Cells[0] = readCell("r:1 | R R") }, 2, api.ErrLength},
		// A measure with the length of two quarters has other voices.
		{func(m *api.Measure) { m.Length = half }, 2, api.ErrLength}, {func(m *api.Measure) { m.Length = half; m.Cells = []api.Cell{readCell("C4:2"), readCell("R")} }, 2, api.OK}, {func(m *api.Measure) { m.Length = half; m.Cells = []api.Cell{readCell("C4:2"), readCell("@967680=1 R")} }, 2, api.ErrRange},
	} {
		m := changed(good, c.change)
		if e := measure.Check(m, c.staves); e != c.e {
			t.Errorf("%d: Check(%v, %d) = %d; want %d", i, m, c.staves, e, c.e)
		}
	}
}

// TestP13_2Else tests that Check does not look at what else a measure has.
func TestP13_2Else(t *testing.T) {
	m := read("4/4", "R")
	m.ID, m.RepeatEnd, m.Endings, m.Jump, m.Labels, m.Swing, m.Break = api.ID{Site: -1}, -1, -1, 99, 99, 99, 99
	m.Tempi, m.Rehearsal = []api.TempoMark{{At: -1}, {At: -1}}, "\x00"
	if e := measure.Check(m, 1); e != api.OK {
		t.Errorf("Check = %d", e)
	}
}

func TestP13_1AtRandom(t *testing.T) {
	found := map[api.Errno]int{}
	measures(t, 3000, func(r source, m api.Measure) {
		length, e := measure.Length(m)
		if want, f := lengthOf(m); length != want || e != f {
			t.Fatalf("Length(%v) = %d, error %d; want %d, error %d", m, length, e, want, f)
		}
		p, e := measure.Place(m)
		if want, f := placeOf(m); p != want || e != f {
			t.Fatalf("Place(%v) = %v, error %d; want %v, error %d", m, p, e, want, f)
		}
		found[e]++
	})
	for _, e := range []api.Errno{api.OK, api.ErrRange, api.ErrValue, api.ErrMetre, api.ErrTick, api.ErrLong} {
		if found[e] < 20 {
			t.Errorf("the error %d was tested only %d times", e, found[e])
		}
	}
}

func TestP13_2AtRandom(t *testing.T) {
	found := map[api.Errno]int{}
	measures(t, 6000, func(r source, m api.Measure) {
		staves := len(m.Cells)
		if r.Intn(20) == 0 {
			staves = r.Intn(4)
		}
		e := measure.Check(m, staves)
		if want := checkOf(m, staves); e != want {
			t.Fatalf("Check(%v, %d) = %d; want %d", m, staves, e, want)
		}
		found[e]++
	})
	for _, e := range []api.Errno{api.OK, api.ErrRange, api.ErrKind, api.ErrLength, api.ErrOrder, api.ErrLimit, api.ErrState} {
		if found[e] < 20 {
			t.Errorf("the error %d was tested only %d times", e, found[e])
		}
	}
}

func TestP13_4ClefAt(t *testing.T) {
	m := read("4/4", "@483840=2 @967680=3 R", "@0=4 R", "R", "@7=5 @3=6 R")
	for i, c := range []struct {
		staff, before, tick, want int
		e                         api.Errno
	}{
		{0, clef.Treble, 0, 1, api.OK}, {0, clef.BassDown, quarter - 1, 9, api.OK}, {0, clef.Treble, quarter, 2, api.OK}, {0, clef.Treble, half - 1, 2, api.OK}, {0, clef.Treble, half, 3, api.OK}, {0, clef.Treble, math.MaxInt, 3, api.OK}, {0, clef.Treble, -1, 1, api.OK}, {0, clef.Treble, math.MinInt, 1, api.OK},
		{1, clef.Treble, 0, 4, api.OK}, {1, clef.Treble, -1, 1, api.OK}, {2, clef.Tenor, whole, 4, api.OK},
		// The last change of the list counts, even if it is not in order.
		{3, clef.Treble, 8, 6, api.OK}, {3, clef.Treble, 5, 6, api.OK}, {3, clef.Treble, 2, 1, api.OK},
		{4, clef.Treble, 0, 0, api.ErrRange}, {-1, clef.Treble, 0, 0, api.ErrRange}, {math.MaxInt, 0, 0, 0, api.ErrRange}, {4, 10, 0, 0, api.ErrRange}, {0, 0, 0, 0, api.ErrKind}, {0, 10, half, 0, api.ErrKind}, {0, -1, 0, 0, api.ErrKind},
	} {
		if got, e := measure.ClefAt(m, c.staff, c.before, c.tick); got != c.want || e != c.e {
			t.Errorf("%d: ClefAt(%d, %d, %d) = %d, error %d; want %d, error %d", i, c.staff, c.before, c.tick, got, e, c.want, c.e)
		}
	}
	// Neither the length nor the voices nor the clefs of the changes matter.
	wrong := api.Measure{Length: -1, Cells: []api.Cell{{Clefs: []api.ClefChange{{At: -5, Clef: 99}}}}}
	if got, e := measure.ClefAt(wrong, 0, 1, 0); got != 99 || e != api.OK {
		t.Errorf("ClefAt of a wrong measure = %d, error %d", got, e)
	}
}

func TestP13_4AtRandom(t *testing.T) {
	measures(t, 3000, func(r source, m api.Measure) {
		staff, before, tick := r.Intn(4), 1+r.Intn(9), r.Intn(2*whole)-eighth
		want, f := 0, api.ErrRange
		if staff < len(m.Cells) {
			want, f = before, api.OK
			for _, change := range m.Cells[staff].Clefs {
				if tick >= change.At {
					want = change.Clef
				}
			}
		}
		if got, e := measure.ClefAt(m, staff, before, tick); got != want || e != f {
			t.Fatalf("ClefAt(%v, %d, %d, %d) = %d, error %d; want %d, error %d", m, staff, before, tick, got, e, want, f)
		}
	})
}
