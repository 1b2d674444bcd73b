package measure_test

import (
	"math"
	"slices"
	"testing"

	"hemiola/api"
	"hemiola/measure"
	"hemiola/voice"
)

func TestP13_3Slots(t *testing.T) {
	example := read("3/4", "1=C4:2 2=C4:4 | 3=C4:2.")
	for i, c := range []struct {
		m       api.Measure
		slots   []measure.Slot
		columns []int
		e       api.Errno
	}{
		{example, []measure.Slot{{0, 0, 0, 0, half}, {0, 0, 1, half, 3 * quarter}, {0, 1, 0, 0, 3 * quarter}}, []int{0, half}, api.OK},
		{read("4/4", "R", "C4:4 (3:2 C4:8 C4:8 C4:8 ) r:2", " | s:1"), []measure.Slot{{0, 0, 0, 0, whole}, {1, 0, 0, 0, quarter}, {1, 0, 1, quarter, quarter + 161280}, {1, 0, 2, quarter + 161280, quarter + 322560}, {1, 0, 3, quarter + 322560, half}, {1, 0, 4, half, whole}, {2, 1, 0, 0, whole}}, []int{0, quarter, quarter + 161280, quarter + 322560, half}, api.OK},
		{read("4/4"), nil, nil, api.OK}, {read("4/4", "", " | "), nil, nil, api.OK}, {read("4/4", "R | R | R"), []measure.Slot{{0, 0, 0, 0, whole}, {0, 1, 0, 0, whole}, {0, 2, 0, 0, whole}}, []int{0}, api.OK},
		{changed(read("4/4", "R", "C4:4"), func(m *api.Measure) { m.Length = quarter }), []measure.Slot{{0, 0, 0, 0, quarter}, {1, 0, 0, 0, quarter}}, []int{0}, api.OK},
		{changed(example, func(m *api.Measure) { m.Metre.Unit = 5 }), nil, nil, api.ErrValue}, {changed(example, func(m *api.Measure) { m.Length = -1 }), nil, nil, api.ErrRange}, {read("4/4", "R", "r:2"), nil, nil, api.ErrLength}, {read("4/4", "R", "R | R R", "r:2"), nil, nil, api.ErrKind}, {read("4/4", "r:2 | R R"), nil, nil, api.ErrLength},
		// Voices without events are not looked at, nor are clefs and the key.
		{changed(read("4/4", "@-1=0 R"), func(m *api.Measure) {
			m.Fifths, m.Cells[0].Voices = 99, append(m.Cells[0].Voices, api.Voice{Tuplets: make([]api.Tuplet, 1)})
		}), []measure.Slot{{0, 0, 0, 0, whole}}, []int{0}, api.OK},
	} {
		if got, e := measure.Slots(c.m); !slices.Equal(got, c.slots) || e != c.e {
			t.Errorf("%d: Slots(%v) = %v, error %d; want %v, error %d", i, c.m, got, e, c.slots, c.e)
		}
		if got, e := measure.Columns(c.m); !slices.Equal(got, c.columns) || e != c.e {
			t.Errorf("%d: Columns(%v) = %v, error %d; want %v, error %d", i, c.m, got, e, c.columns, c.e)
		}
	}
}

func TestP13_3At(t *testing.T) {
	m := read("4/4", "C4:4 (3:2 C4:8 C4:8 C4:8 ) r:2 | R", " | r:2", "C4:1")
	for i, c := range []struct {
		staff, voice, tick int
		want               measure.Slot
		e                  api.Errno
	}{
		{0, 0, 0, measure.Slot{0, 0, 0, 0, quarter}, api.OK}, {0, 0, quarter - 1, measure.Slot{0, 0, 0, 0, quarter}, api.OK}, {0, 0, quarter, measure.Slot{0, 0, 1, quarter, quarter + 161280}, api.OK}, {0, 0, half, measure.Slot{0, 0, 4, half, whole}, api.OK}, {0, 0, whole - 1, measure.Slot{0, 0, 4, half, whole}, api.OK}, {0, 1, 5, measure.Slot{0, 1, 0, 0, whole}, api.OK}, {2, 0, 5, measure.Slot{2, 0, 0, 0, whole}, api.OK},
		{0, 0, -1, measure.Slot{}, api.ErrRange}, {0, 0, whole, measure.Slot{}, api.ErrRange}, {0, 0, math.MaxInt, measure.Slot{}, api.ErrRange}, {0, 2, 0, measure.Slot{}, api.ErrRange}, {0, -1, 0, measure.Slot{}, api.ErrRange}, {-1, 0, 0, measure.Slot{}, api.ErrRange}, {3, 0, 0, measure.Slot{}, api.ErrRange}, {math.MinInt, math.MaxInt, 0, measure.Slot{}, api.ErrRange}, {1, 0, 0, measure.Slot{}, api.ErrRange}, {2, 1, 0, measure.Slot{}, api.ErrRange},
		// Only the voice itself must be as required; its error comes before that of the tick.
		{1, 1, 0, measure.Slot{}, api.ErrLength}, {1, 1, -1, measure.Slot{}, api.ErrLength},
	} {
		if got, e := measure.At(m, c.staff, c.voice, c.tick); got != c.want || e != c.e {
			t.Errorf("%d: At(%d, %d, %d) = %v, error %d; want %v, error %d", i, c.staff, c.voice, c.tick, got, e, c.want, c.e)
		}
	}
	for e, change := range map[api.Errno]func(m *api.Measure){
		api.ErrMetre: func(m *api.Measure) { m.Metre.Groups[1] = 9 },
		api.ErrLong:  func(m *api.Measure) { m.Length = 9 * whole },
		api.ErrTick:  func(m *api.Measure) { m.Length = whole - 1 },
	} {
		if got, f := measure.At(changed(m, change), 9, 9, -1); got != (measure.Slot{}) || f != e {
			t.Errorf("At = %v, error %d; want error %d", got, f, e)
		}
	}
}

func TestP13_3Find(t *testing.T) {
	m := read("4/4", "1=C4:2 2=C4:2 | 3=R", "r:2 2=r:2")
	for n, want := range map[int]measure.Slot{1: {0, 0, 0, 0, half}, 2: {0, 0, 1, half, whole}, 3: {0, 1, 0, 0, whole}} {
		if got, ok := measure.Find(m, api.ID{Site: 1, Number: n}); got != want || !ok {
			t.Errorf("Find(%d) = %v, %t; want %v", n, got, ok, want)
		}
	}
	// The measure itself is no event, and the zero id is none.
	for _, id := range []api.ID{{}, {Site: 1, Number: 4}, {Site: 2, Number: 1}, {Number: 1}, {Site: 1}, m.ID} {
		if got, ok := measure.Find(m, id); got != (measure.Slot{}) || ok {
			t.Errorf("Find(%v) = %v, %t", id, got, ok)
		}
	}
	for _, wrong := range []api.Measure{read("4/4", "1=C4:1", "r:2"), sized(m.Metre, -1), changed(m, func(m *api.Measure) { m.Length = half })} {
		if got, ok := measure.Find(wrong, api.ID{Site: 1, Number: 1}); got != (measure.Slot{}) || ok {
			t.Errorf("Find in %v = %v, %t", wrong, got, ok)
		}
	}
}

func TestP13_3AtRandom(t *testing.T) {
	found := map[api.Errno]int{}
	measures(t, 8000, func(r source, m api.Measure) {
		slots, e := measure.Slots(m)
		want, f := slotsOf(m)
		if !slices.Equal(slots, want) || e != f {
			t.Fatalf("Slots(%v) = %v, error %d; want %v, error %d", m, slots, e, want, f)
		}
		found[e]++
		columns := map[int]bool{}
		for _, s := range want {
			columns[s.On] = true
			testSlot(t, m, s, want)
		}
		got, e := measure.Columns(m)
		if len(got) != len(columns) || e != f || !slices.IsSorted(got) || slices.ContainsFunc(got, func(tick int) bool { return !columns[tick] }) {
			t.Fatalf("Columns(%v) = %v, error %d; want %v, error %d", m, got, e, columns, f)
		}
	})
	for _, e := range []api.Errno{api.OK, api.ErrRange, api.ErrTick, api.ErrKind, api.ErrLength} {
		if found[e] < 20 {
			t.Errorf("the error %d was tested only %d times", e, found[e])
		}
	}
}

// testSlot tests that At and Find lead to a slot, or, for Find, to the first one with the same id.
func testSlot(t *testing.T, m api.Measure, s measure.Slot, all []measure.Slot) {
	t.Helper()
	for _, tick := range []int{s.On, (s.On + s.Off) / 2, s.Off - 1} {
		if got, e := measure.At(m, s.Staff, s.Voice, tick); got != s || e != api.OK {
			t.Fatalf("At(%v, %d, %d, %d) = %v, error %d; want %v", m, s.Staff, s.Voice, tick, got, e, s)
		}
	}
	idOf := func(s measure.Slot) api.ID { return m.Cells[s.Staff].Voices[s.Voice].Events[s.Event].ID }
	id := idOf(s)
	first := all[slices.IndexFunc(all, func(other measure.Slot) bool { return idOf(other) == id })]
	got, ok := measure.Find(m, id)
	if ok != (id != api.ID{}) || ok && got != first || !ok && got != (measure.Slot{}) {
		t.Fatalf("Find(%v, %v) = %v, %t; want %v", m, id, got, ok, first)
	}
}

// TestP13_10Cover tests that the events of each voice cover the measure without gaps.
func TestP13_10Cover(t *testing.T) {
	measures(t, 3000, func(r source, m api.Measure) {
		slots, e := measure.Slots(m)
		if e != api.OK {
			return
		}
		length, _ := measure.Length(m)
		end := map[[2]int]int{}
		for _, s := range slots {
			if s.On != end[[2]int{s.Staff, s.Voice}] || s.Off <= s.On {
				t.Fatalf("the slots of %v are %v", m, slots)
			}
			end[[2]int{s.Staff, s.Voice}] = s.Off
		}
		for staff, c := range m.Cells {
			for k, v := range c.Voices {
				if len(v.Events) > 0 && end[[2]int{staff, k}] != length {
					t.Fatalf("the slots of %v, which lasts up to %d, are %v", m, length, slots)
				}
			}
		}
	})
}

func TestP13_3Errors(t *testing.T) {
	measures(t, 2000, func(r source, m api.Measure) {
		staff, k, tick := r.Intn(4), r.Intn(3), r.Intn(2*whole)-eighth
		length, f := lengthOf(m)
		if f == api.OK {
			f = api.ErrRange
			if staff < len(m.Cells) && k < len(m.Cells[staff].Voices) && len(m.Cells[staff].Voices[k].Events) > 0 {
				_, _, f = voice.At(m.Cells[staff].Voices[k], length, tick)
			}
		}
		got, e := measure.At(m, staff, k, tick)
		if e != f || e != api.OK && got != (measure.Slot{}) || e == api.OK && (tick < got.On || tick >= got.Off) {
			t.Fatalf("At(%v, %d, %d, %d) = %v, error %d; want error %d", m, staff, k, tick, got, e, f)
		}
	})
}
