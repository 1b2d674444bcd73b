package measure_test

import (
	"math"
	"slices"
	"testing"

	"hemiola/api"
	"hemiola/measure"
)

func TestP13_8Number(t *testing.T) {
	m := read("4/4", "C4:2 2=C4:2 | R", "5=R | r:2")
	m.ID = api.ID{}
	want := read("4/4", "C4:2 2=C4:2 | R", "5=R | r:2")
	want.ID = api.ID{}
	want.Cells[0].Voices[0].Events[0].ID = api.ID{Site: 3, Number: 10}
	want.Cells[0].Voices[1].Events[0].ID = api.ID{Site: 3, Number: 11}
	want.Cells[1].Voices[1].Events[0].ID = api.ID{Site: 3, Number: 12}
	if got, next := measure.Number(m, 3, 10); !equal(got, want) || next != 13 {
		t.Errorf("Number = %v, %d", got, next)
	}
	if got, next := measure.Number(want, 4, -7); !equal(got, want) || next != -7 {
		t.Errorf("Number of a measure with ids = %v, %d", got, next)
	}
	// Only the id {0, 0} is zero; the numbers are not checked.
	half := read("4/4", "C4:2 C4:2")
	half.Cells[0].Voices[0].Events[0].ID = api.ID{Site: 1}
	half.Cells[0].Voices[0].Events[1].ID = api.ID{Number: 1}
	if got, next := measure.Number(half, -1, 0); !equal(got, half) || next != 0 {
		t.Errorf("Number of a measure with ids that are half zero = %v, %d", got, next)
	}
	if got, next := measure.Number(m, -1, -1); next != 2 || got.Cells[1].Voices[1].Events[0].ID != (api.ID{Site: -1, Number: 1}) {
		t.Errorf("Number from -1 on = %v, %d", got, next)
	}
	if _, next := measure.Number(api.Measure{}, 1, math.MaxInt); next != math.MaxInt {
		t.Errorf("Number of no events = %d", next)
	}
}

func TestP13_8IDs(t *testing.T) {
	m := read("4/4", "1=C4:2 r:2 | 9=R", "1=R |  | 4=R R")
	want := []api.ID{m.ID, {Site: 1, Number: 1}, {}, {Site: 1, Number: 9}, {Site: 1, Number: 1}, {Site: 1, Number: 4}, {}}
	if got := measure.IDs(m); !slices.Equal(got, want) {
		t.Errorf("IDs = %v; want %v", got, want)
	}
	if got := measure.IDs(api.Measure{}); !slices.Equal(got, []api.ID{{}}) {
		t.Errorf("IDs of a measure without cells = %v", got)
	}
}

func TestP13_8Silent(t *testing.T) {
	m := read("4/4", "R", "r:2 s:2 | C4:1", "r:2 C4:2", "", "r:1 | | C4:1")
	m.Cells = append(m.Cells, api.Cell{})
	for staff, want := range []bool{true, false, false, true, false, true, true} {
		if got := measure.Silent(m, staff); got != want {
			t.Errorf("Silent(%d) = %t", staff, got)
		}
	}
	for _, staff := range []int{-1, math.MinInt, math.MaxInt} {
		if !measure.Silent(m, staff) {
			t.Errorf("Silent(%d) is false", staff)
		}
	}
	// What sounds is a chord with heads, whatever else the event is.
	x := api.Event{Kind: api.Chord}
	if !measure.Silent(api.Measure{Cells: []api.Cell{{Voices: []api.Voice{{Events: []api.Event{x}}}}}}, 0) {
		t.Error("a chord without heads is not silent")
	}
	x.Heads = []api.Head{{Show: 77}}
	if measure.Silent(api.Measure{Length: -1, Cells: []api.Cell{{Voices: []api.Voice{{Events: []api.Event{{}, x}}}}}}, 0) {
		t.Error("a chord with a wrong head is silent")
	}
}

func TestP13_8AtRandom(t *testing.T) {
	measures(t, 3000, func(r source, m api.Measure) {
		ids, want, next := []api.ID{m.ID}, copied(m), 100
		for staff, c := range m.Cells {
			silent := true
			for k, v := range c.Voices {
				for i, x := range v.Events {
					ids = append(ids, x.ID)
					silent = silent && (x.Kind != api.Chord || len(x.Heads) == 0)
					if x.ID == (api.ID{}) {
						want.Cells[staff].Voices[k].Events[i].ID = api.ID{Site: 7, Number: next}
						next++
					}
				}
			}
			if got := measure.Silent(m, staff); got != silent {
				t.Fatalf("Silent(%v, %d) = %t", m, staff, got)
			}
		}
		if got := measure.IDs(m); !slices.Equal(got, ids) {
			t.Fatalf("IDs(%v) = %v; want %v", m, got, ids)
		}
		got, n := measure.Number(m, 7, 100)
		if !equal(got, want) || n != next {
			t.Fatalf("Number(%v) = %v, %d; want %v, %d", m, got, n, want, next)
		}
		spoil(got)
	})
}

// full returns a measure with something in every field.
func full() api.Measure {
	m := read("3/4", "@0=2 1=C4:2 2=D4:4 | 3=r:2.", "(3:2 4=C4:8 5=C4:8 6=C4:8 ) r:2", "R")
	m.Length, m.Fifths, m.RepeatStart, m.RepeatEnd, m.Endings, m.Jump, m.Labels, m.Swing, m.Break, m.Rehearsal = 3*quarter, -2, true, 2, 1, 3, 5, 60, 1, "A"
	m.Metre.Groups = [6]int{2, 1}
	m.Tempi = []api.TempoMark{{At: 0, Micros: 500000}, {At: quarter, Micros: 600000, Ramp: true}}
	x := &m.Cells[0].Voices[0].Events[0]
	x.Graces, x.Lyrics = []api.Grace{{Log: 3}}, []api.Syllable{{Text: "la"}}
	return m
}

// fields returns changes of a measure, each of another field; none of them is an id.
func fields() []func(m *api.Measure) {
	return []func(m *api.Measure){
		func(m *api.Measure) { m.Metre.Count++ }, func(m *api.Measure) { m.Metre.Groups = [6]int{1, 2} }, func(m *api.Measure) { m.Metre.Unit = 8 }, func(m *api.Measure) { m.Length = 0 }, func(m *api.Measure) { m.Fifths++ },
		func(m *api.Measure) { m.RepeatStart = false }, func(m *api.Measure) { m.RepeatEnd++ }, func(m *api.Measure) { m.Endings++ }, func(m *api.Measure) { m.Jump++ }, func(m *api.Measure) { m.Labels++ }, func(m *api.Measure) { m.Swing++ }, func(m *api.Measure) { m.Break++ }, func(m *api.Measure) { m.Rehearsal = "a" },
		func(m *api.Measure) { m.Tempi = m.Tempi[:1] }, func(m *api.Measure) { m.Tempi = nil }, func(m *api.Measure) { m.Tempi[0].At++ }, func(m *api.Measure) { m.Tempi[1].Micros++ }, func(m *api.Measure) { m.Tempi[1].Ramp = false },
		func(m *api.Measure) { m.Cells = m.Cells[:2] }, func(m *api.Measure) { m.Cells[0], m.Cells[1] = m.Cells[1], m.Cells[0] },
	}
}

// cellFields returns changes of the first cell of full, each of another field; none of them is an id.
func cellFields() []func(c *api.Cell) {
	return []func(c *api.Cell){
		func(c *api.Cell) { c.Clefs = nil }, func(c *api.Cell) { c.Clefs[0].At++ }, func(c *api.Cell) { c.Clefs[0].Clef++ }, func(c *api.Cell) { c.Clefs = append(c.Clefs, api.ClefChange{}) },
		func(c *api.Cell) { c.Voices = c.Voices[:1] }, func(c *api.Cell) { c.Voices = append(c.Voices, api.Voice{}) }, func(c *api.Cell) { c.Voices[1].Events = nil }, func(c *api.Cell) { c.Voices[1].Tuplets = make([]api.Tuplet, 1) },
		func(c *api.Cell) { c.Voices[0].Events[0].Kind++ }, func(c *api.Cell) { c.Voices[0].Events[1].Value.Dots++ }, func(c *api.Cell) { c.Voices[0].Events[0].Heads[0].Tied = true }, func(c *api.Cell) { c.Voices[0].Events[0].Lyrics[0].Link = 1 }, func(c *api.Cell) { c.Voices[0].Events[0].Graces = nil },
	}
}

func TestP13_9Equal(t *testing.T) {
	a := full()
	if !measure.Equal(a, full()) || !measure.Same(a, full()) || !measure.EqualCell(a.Cells[0], full().Cells[0]) {
		t.Error("equal measures are not equal")
	}
	for i, change := range fields() {
		if b := changed(a, change); measure.Equal(a, b) || measure.Equal(b, a) || measure.Same(a, b) || measure.Same(b, a) {
			t.Errorf("%d: %v and %v are equal", i, a, b)
		}
	}
	for i, change := range cellFields() {
		b := changed(a, func(m *api.Measure) { change(&m.Cells[0]) })
		if measure.EqualCell(a.Cells[0], b.Cells[0]) || measure.EqualCell(b.Cells[0], a.Cells[0]) || measure.Equal(a, b) || measure.Same(a, b) {
			t.Errorf("%d: %v and %v are equal", i, a.Cells[0], b.Cells[0])
		}
	}
	empty := api.Measure{Tempi: []api.TempoMark{}, Cells: []api.Cell{}}
	if !measure.Equal(empty, api.Measure{}) || !measure.Same(api.Measure{}, empty) || !measure.EqualCell(api.Cell{Clefs: []api.ClefChange{}, Voices: []api.Voice{}}, api.Cell{}) {
		t.Error("empty lists are not equal to those that are nil")
	}
	if !measure.EqualCell(api.Cell{Voices: []api.Voice{{Events: []api.Event{}, Tuplets: []api.Tuplet{}}}}, api.Cell{Voices: []api.Voice{{}}}) {
		t.Error("an empty voice is not equal to that without lists")
	}
}

func TestP13_9Same(t *testing.T) {
	a := full()
	for i, change := range []func(m *api.Measure){
		func(m *api.Measure) { m.ID.Site++ }, func(m *api.Measure) { m.ID = api.ID{} }, func(m *api.Measure) { m.Cells[0].Voices[0].Events[0].ID.Number++ }, func(m *api.Measure) { m.Cells[0].Voices[1].Events[0].ID = api.ID{} }, func(m *api.Measure) { m.Cells[1].Voices[0].Events[2].ID.Site-- }, func(m *api.Measure) { m.Cells[2].Voices[0].Events[0].ID.Site = -1 },
	} {
		b := changed(a, change)
		if measure.Equal(a, b) || !measure.Same(a, b) || !measure.Same(b, a) {
			t.Errorf("%d: measures that differ by an id: Equal %t, Same %t", i, measure.Equal(a, b), measure.Same(a, b))
		}
	}
}

func TestP13_9Clone(t *testing.T) {
	before := full()
	measures(t, 2000, func(r source, m api.Measure) {
		c := measure.Clone(m)
		if !equal(c, m) || !measure.Equal(c, m) {
			t.Fatalf("Clone(%v) = %v", m, c)
		}
		spoil(c)
		for i := range m.Cells {
			cell := measure.CloneCell(m.Cells[i])
			if !equal(api.Measure{Cells: []api.Cell{cell}}, api.Measure{Cells: m.Cells[i : i+1]}) || !measure.EqualCell(cell, m.Cells[i]) {
				t.Fatalf("CloneCell(%v) = %v", m.Cells[i], cell)
			}
			spoilCell(cell)
		}
		if measure.Equal(m, before) != equal(m, before) {
			t.Fatalf("Equal(%v, %v) = %t", m, before, measure.Equal(m, before))
		}
		numbered, _ := measure.Number(m, 8, 1)
		numbered.ID = api.ID{Site: 9, Number: 9}
		if !measure.Same(m, numbered) || measure.Equal(m, numbered) {
			t.Fatalf("Same(%v, %v) = %t", m, numbered, measure.Same(m, numbered))
		}
		before = m
	})
	c := measure.Clone(full())
	if spoil(c); !equal(full(), measure.Clone(full())) {
		t.Error("Clone returned something that is shared")
	}
}
