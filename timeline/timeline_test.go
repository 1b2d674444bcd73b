package timeline_test

import (
	"math"
	"slices"
	"testing"

	"hemiola/api"
	"hemiola/key"
	"hemiola/sample"
	"hemiola/score"
	"hemiola/spanner"
	"hemiola/timeline"
)

func TestP17_1InvalidScores(t *testing.T) {
	for i, s := range invalid() {
		id := api.ID{Number: 4}
		starts, e1 := timeline.Starts(s)
		measure, offset, e2 := timeline.At(s, -1)
		contexts, e3 := timeline.Contexts(s, -1)
		held, e4 := timeline.HeldInto(s, -1, -1)
		spans, e5 := timeline.Spans(s)
		place, e6 := timeline.Place(s, id)
		shift, e7 := timeline.Shift(s, -1, -1, -1)
		notes, e8 := timeline.Notes(s)
		for k, e := range []api.Errno{e1, e2, e3, e4, e5, e6, e7, e8} {
			if e != api.ErrRule {
				t.Errorf("%d: the function %d returns the error %d", i, k, e)
			}
		}
		if len(starts)+measure+offset+len(contexts)+len(held)+len(spans)+shift+len(notes) != 0 || place != (spanner.Place{}) {
			t.Errorf("%d: a function returns more than an error", i)
		}
	}
}

func TestP17_1Starts(t *testing.T) {
	s := sample.Read("1", "4/4 l483840 : R", "4/4 : R", "6/8 : R")
	if l, e := timeline.Starts(s); e != api.OK || !slices.Equal(l, []int{0, quarter, quarter + whole, 2 * whole}) {
		t.Errorf("Starts = %v, error %d", l, e)
	}
	for _, c := range []struct {
		tick, measure, offset int
		e                     api.Errno
	}{
		{0, 0, 0, api.OK}, {quarter - 1, 0, quarter - 1, api.OK}, {quarter, 1, 0, api.OK}, {quarter + whole - 1, 1, whole - 1, api.OK}, {quarter + whole, 2, 0, api.OK}, {2*whole - 1, 2, 3*quarter - 1, api.OK},
		{2 * whole, 0, 0, api.ErrRange}, {-1, 0, 0, api.ErrRange}, {math.MaxInt, 0, 0, api.ErrRange}, {math.MinInt, 0, 0, api.ErrRange},
	} {
		if measure, offset, e := timeline.At(s, c.tick); measure != c.measure || offset != c.offset || e != c.e {
			t.Errorf("At(%d) = %d, %d, error %d", c.tick, measure, offset, e)
		}
	}
}

func TestP17_1AtRandom(t *testing.T) {
	scores(t, 300, func(r *sample.Source, s api.Score) {
		want := []int{0}
		for _, m := range s.Measures {
			want = append(want, want[len(want)-1]+lengthOf(m))
		}
		starts, e := timeline.Starts(s)
		if !slices.Equal(starts, want) || e != api.OK {
			t.Fatalf("Starts = %v, error %d; want %v", starts, e, want)
		}
		for range 5 {
			i := r.Below(len(s.Measures))
			offset := sample.Pick(r, 0, r.Below(lengthOf(s.Measures[i])), lengthOf(s.Measures[i])-1)
			if m, o, e := timeline.At(s, want[i]+offset); m != i || o != offset || e != api.OK {
				t.Fatalf("At(%d) = %d, %d, error %d; want %d, %d", want[i]+offset, m, o, e, i, offset)
			}
		}
	})
}

func TestP17_2Contexts(t *testing.T) {
	s := sample.Read("11", "4/4 k3 : R ; @0=2 @967680=3 R", "3/4 k-7 : R ; R", "3/4 : R ; @1=4 R", "3/4 : R ; @1451519=1 R", "3/4 : R ; R")
	s.Parts[1].Transpose = api.Interval{Steps: 1, Semitones: 2}
	four, three := s.Measures[0].Metre, s.Measures[1].Metre
	want := []timeline.Context{{1, 3, four}, {1, -7, three}, {1, 0, three}, {1, 0, three}, {1, 0, three}}
	if l, e := timeline.Contexts(s, 0); !slices.Equal(l, want) || e != api.OK {
		t.Errorf("Contexts = %v, error %d; want %v", l, e, want)
	}
	want = []timeline.Context{{2, 3, four}, {3, -7, three}, {3, 0, three}, {4, 0, three}, {1, 0, three}}
	if l, e := timeline.Contexts(s, 1); !slices.Equal(l, want) || e != api.OK {
		t.Errorf("Contexts = %v, error %d; want %v", l, e, want)
	}
	s.Written = true
	for i := range want {
		want[i].Fifths += 2
	}
	if l, e := timeline.Contexts(s, 1); !slices.Equal(l, want) || e != api.OK {
		t.Errorf("Contexts of a written score = %v, error %d; want %v", l, e, want)
	}
	for _, staff := range []int{-1, 2, math.MinInt, math.MaxInt} {
		if l, e := timeline.Contexts(s, staff); len(l) != 0 || e != api.ErrRange {
			t.Errorf("Contexts(%d) = %v, error %d", staff, l, e)
		}
	}
	// A key signature that has too many signs is displayed with twelve fifths less.
	s.Measures[0].Fifths = 6
	if l, e := timeline.Contexts(s, 1); e != api.OK || l[0].Fifths != -4 {
		t.Errorf("Contexts = %v, error %d", l, e)
	}
}

func TestP17_2AtRandom(t *testing.T) {
	changes := 0
	scores(t, 300, func(r *sample.Source, s api.Score) {
		for staff := range score.Staves(s) {
			part, index, _ := score.PartOf(s, staff)
			clef := s.Parts[part].Staves[index].Clef
			var want []timeline.Context
			for _, m := range s.Measures {
				c := timeline.Context{Clef: clef, Fifths: m.Fifths, Metre: m.Metre}
				if s.Written {
					c.Fifths, _ = key.Transpose(m.Fifths, s.Parts[part].Transpose)
				}
				for _, x := range m.Cells[staff].Clefs {
					changes++
					if clef = x.Clef; x.At == 0 {
						c.Clef = clef
					}
				}
				want = append(want, c)
			}
			if l, e := timeline.Contexts(s, staff); !slices.Equal(l, want) || e != api.OK {
				t.Fatalf("Contexts(%d) = %v, error %d; want %v", staff, l, e, want)
			}
		}
	})
	if changes < 300 {
		t.Error("changes of the clef:", changes)
	}
}

func TestP17_3HeldInto(t *testing.T) {
	s := sample.Read("11", "4/4 : C4~:2 C4~+E4+G4~:2 | D4~:1 ; R", "4/4 : C4+G4~:1 | D4:1 ; C4~:1 ", "4/4 : G4:1 ; C4:1")
	c, d, g := api.Pitch{Octave: 4}, api.Pitch{Step: 1, Octave: 4}, api.Pitch{Step: 4, Octave: 4}
	for _, x := range []struct {
		measure, staff int
		want           []timeline.Held
	}{
		{0, 0, nil}, {0, 1, nil}, {1, 0, []timeline.Held{{0, c}, {0, g}, {1, d}}}, {1, 1, nil}, {2, 0, []timeline.Held{{0, g}}}, {2, 1, []timeline.Held{{0, c}}},
	} {
		if l, e := timeline.HeldInto(s, x.measure, x.staff); !slices.Equal(l, x.want) || e != api.OK {
			t.Errorf("HeldInto(%d, %d) = %v, error %d; want %v", x.measure, x.staff, l, e, x.want)
		}
	}
	for _, x := range [][2]int{{-1, 0}, {3, 0}, {0, -1}, {0, 2}, {math.MinInt, 0}, {1, math.MaxInt}} {
		if l, e := timeline.HeldInto(s, x[0], x[1]); len(l) != 0 || e != api.ErrRange {
			t.Errorf("HeldInto(%d, %d) = %v, error %d", x[0], x[1], l, e)
		}
	}
}

func TestP17_3AtRandom(t *testing.T) {
	count := 0
	scores(t, 250, func(r *sample.Source, s api.Score) {
		for i := range s.Measures {
			for staff := range score.Staves(s) {
				var want []timeline.Held
				for k := range api.MaxVoices {
					l := voiceOf(s, staff, k)
					for n, x := range l {
						if x.measure == i-1 && (n+1 == len(l) || l[n+1].measure >= i) {
							for _, h := range x.Heads {
								if h.Tied {
									want = append(want, timeline.Held{Voice: k, Pitch: h.Pitch})
								}
							}
						}
					}
				}
				count += len(want)
				if l, e := timeline.HeldInto(s, i, staff); !slices.Equal(l, want) || e != api.OK {
					t.Fatalf("HeldInto(%d, %d) = %v, error %d; want %v", i, staff, l, e, want)
				}
			}
		}
	})
	if count < 15 {
		t.Error("heads that are held into a measure:", count)
	}
}

// octaves returns a score with an octave line from the second quarter of the first measure to the first one of the third measure in the second staff, and other spanners.
func octaves() api.Score {
	s := sample.Read("2", "4/4 : C4:1 ; C4:4 C4:2. | R", "4/4 : R ; R", "4/4 : R ; C4:2 C4:2 | C4:4 r:2.")
	event := func(measure, staff, voice, index int) api.ID {
		return s.Measures[measure].Cells[staff].Voices[voice].Events[index].ID
	}
	s.Spanners = []api.Spanner{
		{Kind: api.OctaveUp, From: event(0, 1, 0, 1), To: event(2, 1, 1, 0)},
		{Kind: api.OctaveDown, From: event(2, 1, 1, 1), To: event(2, 1, 0, 1)},
		{Kind: api.Slur, From: event(0, 1, 0, 0), To: event(2, 1, 0, 1)},
	}
	return score.Renumber(s)
}

func TestP17_4Spans(t *testing.T) {
	s := octaves()
	want := []spanner.Span{
		{Kind: api.OctaveUp, From: spanner.Place{At: quarter, Staff: 1}, To: spanner.Place{Measure: 2, Staff: 1, Voice: 1}},
		{Kind: api.OctaveDown, From: spanner.Place{Measure: 2, At: quarter, Staff: 1, Voice: 1}, To: spanner.Place{Measure: 2, At: half, Staff: 1}},
		{Kind: api.Slur, From: spanner.Place{Staff: 1}, To: spanner.Place{Measure: 2, At: half, Staff: 1}},
	}
	if l, e := timeline.Spans(s); !slices.Equal(l, want) || e != api.OK {
		t.Errorf("Spans = %v, error %d; want %v", l, e, want)
	}
	for i, x := range s.Spanners {
		if p, e := timeline.Place(s, x.From); p != want[i].From || e != api.OK {
			t.Errorf("Place = %v, error %d; want %v", p, e, want[i].From)
		}
	}
	for _, id := range []api.ID{{}, {Number: 1}, {Number: 2}, {Number: 4}, s.Spanners[0].ID, {Number: 99}, {Site: 1, Number: 5}} {
		if p, e := timeline.Place(s, id); p != (spanner.Place{}) || e != api.ErrNotFound {
			t.Errorf("Place(%v) = %v, error %d", id, p, e)
		}
	}
}

func TestP17_4Shift(t *testing.T) {
	s := octaves()
	for _, c := range []struct{ measure, staff, tick, want int }{
		{0, 1, 0, 0}, {0, 1, quarter - 1, 0}, {0, 1, quarter, -7}, {0, 0, quarter, 0}, {1, 1, 0, -7}, {1, 1, whole - 1, -7}, {2, 1, 0, -7}, {2, 1, 1, 0}, {2, 1, quarter - 1, 0}, {2, 1, quarter, 7}, {2, 1, half, 7}, {2, 1, half + 1, 0}, {2, 0, half, 0},
	} {
		if n, e := timeline.Shift(s, c.measure, c.staff, c.tick); n != c.want || e != api.OK {
			t.Errorf("Shift(%d, %d, %d) = %d, error %d; want %d", c.measure, c.staff, c.tick, n, e, c.want)
		}
	}
	for _, c := range [][3]int{{-1, 0, 0}, {3, 0, 0}, {0, -1, 0}, {0, 2, 0}, {0, 0, -1}, {0, 0, whole}, {0, 0, math.MinInt}, {1, 1, math.MaxInt}, {math.MaxInt, 1, 1}, {1, math.MinInt, 1}} {
		if n, e := timeline.Shift(s, c[0], c[1], c[2]); n != 0 || e != api.ErrRange {
			t.Errorf("Shift(%v) = %d, error %d", c, n, e)
		}
	}
}

func TestP17_4AtRandom(t *testing.T) {
	shifts := map[int]int{}
	scores(t, 500, func(r *sample.Source, s api.Score) {
		places := map[api.ID]spanner.Place{}
		starts, _ := timeline.Starts(s)
		for staff := range score.Staves(s) {
			for k := range api.MaxVoices {
				for _, x := range voiceOf(s, staff, k) {
					places[x.ID] = spanner.Place{Measure: x.measure, At: x.on - starts[x.measure], Staff: staff, Voice: k}
				}
			}
		}
		for id, want := range places {
			if p, e := timeline.Place(s, id); p != want || e != api.OK {
				t.Fatalf("Place(%v) = %v, error %d; want %v", id, p, e, want)
			}
			if r.Chance(80) {
				break
			}
		}
		var want []spanner.Span
		for _, x := range s.Spanners {
			want = append(want, spanner.Span{Kind: x.Kind, From: places[x.From], To: places[x.To]})
		}
		if l, e := timeline.Spans(s); !slices.Equal(l, want) || e != api.OK {
			t.Fatalf("Spans = %v, error %d; want %v", l, e, want)
		}
		for range 3 {
			measure, staff := r.Below(len(s.Measures)), r.Below(score.Staves(s))
			tick := r.Below(lengthOf(s.Measures[measure])/eighth) * eighth
			wanted := spanner.Shift(want, spanner.Place{Measure: measure, At: tick, Staff: staff})
			shifts[wanted]++
			if n, e := timeline.Shift(s, measure, staff, tick); n != wanted || e != api.OK {
				t.Fatalf("Shift(%d, %d, %d) = %d, error %d; want %d", measure, staff, tick, n, e, wanted)
			}
		}
	})
	if shifts[7] < 20 || shifts[-7] < 20 {
		t.Error("shifts:", shifts)
	}
}
