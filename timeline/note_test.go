package timeline_test

import (
	"slices"
	"testing"

	"hemiola/api"
	"hemiola/check"
	"hemiola/pitch"
	"hemiola/sample"
	"hemiola/score"
	"hemiola/timeline"
	"hemiola/voice"
)

// sound returns the times and numbers of notes.
func sound(l []api.Note) [][3]int {
	var out [][3]int
	for _, n := range l {
		out = append(out, [3]int{n.On, n.Off, n.Number})
	}
	return out
}

func TestP17_5Examples(t *testing.T) {
	s := sample.Read("1", "4/4 : C4~:2 C4:4 r:4")
	l, e := timeline.Notes(s)
	if e != api.OK || len(l) != 1 || l[0] != (api.Note{Off: 1451520, Number: 60, Event: api.ID{Number: 4}}) {
		t.Errorf("Notes = %v, error %d", l, e)
	}
	s = sample.Read("1", "4/4 : D4:1")
	s.Written, s.Parts[0].Transpose = true, api.Interval{Steps: 1, Semitones: 2}
	if l, e := timeline.Notes(s); e != api.OK || len(l) != 1 || l[0].Number != 60 {
		t.Errorf("Notes = %v, error %d", l, e)
	}
	if l, e := timeline.Contexts(s, 0); e != api.OK || l[0].Fifths != 2 {
		t.Errorf("Contexts = %v, error %d", l, e)
	}
	s.Written = false
	if l, e := timeline.Notes(s); e != api.OK || l[0].Number != 62 {
		t.Errorf("Notes of a sounding score = %v, error %d", l, e)
	}
}

func TestP17_5Ties(t *testing.T) {
	for _, c := range []struct {
		measures []string
		want     [][3]int
	}{
		// A chord some heads of which are tied, over a barline and through several events.
		{[]string{"4/4 : C4~+E4:2 C4~+G4~:2", "4/4 : C4~+G4:2 C4:2"}, [][3]int{{0, 2 * whole, 60}, {0, half, 64}, {half, whole + half, 67}}},
		// The same pitch that is not tied begins anew; so does the same number that is spelled in another way.
		{[]string{"4/4 : C4:2 C4:2"}, [][3]int{{0, half, 60}, {half, whole, 60}}},
		{[]string{"4/4 : C4~:2 C4:4 B#3:4"}, [][3]int{{0, half + quarter, 60}, {half + quarter, whole, 60}}},
		// Voices and staves are different, also at the same pitch.
		{[]string{"4/4 : C4~:2 C4:2 | C4:4 C4:4 C4~:4 C4:4"}, [][3]int{{0, whole, 60}, {0, quarter, 60}, {quarter, half, 60}, {half, whole, 60}}},
		// Grace notes do not sound, and rests neither.
		{[]string{"4/4 : R | r:2 s:2"}, nil},
		{[]string{"3/4 : (3:2 C4:4 D4~:4 D4:4 ) r:4"}, [][3]int{{0, 322560, 60}, {322560, half, 62}}},
	} {
		l, e := timeline.Notes(sample.Read("1", c.measures...))
		if got := sound(l); !slices.Equal(got, c.want) || e != api.OK {
			t.Errorf("%q: Notes = %v, error %d; want %v", c.measures, got, e, c.want)
		}
	}
	s := sample.Read("1", "4/4 : C4:1")
	s.Measures[0].Cells[0].Voices[0].Events[0].Graces = []api.Grace{{Pitch: api.Pitch{Octave: 5}, Log: 3}}
	if l, _ := timeline.Notes(s); len(l) != 1 {
		t.Errorf("Notes with a grace note = %v", l)
	}
}

func TestP17_5AtRandom(t *testing.T) {
	over := 0
	scores(t, 600, func(r *sample.Source, s api.Score) {
		want := sortedOf(notesOf(s))
		got, e := timeline.Notes(s)
		if !slices.Equal(got, want) || e != api.OK {
			t.Fatalf("Notes = %v, error %d; want %v", got, e, want)
		}
		starts, _ := timeline.Starts(s)
		for _, n := range got {
			if slices.ContainsFunc(starts, func(start int) bool { return n.On < start && start < n.Off }) {
				over++
			}
		}
	})
	if over < 60 {
		t.Error("notes that last over a barline:", over)
	}
}

func TestP17_6Select(t *testing.T) {
	l := []api.Note{{On: 10, Off: 20}, {On: 0, Off: 10, Part: 1}, {On: 0, Off: 11, Part: 2}, {On: 10, Off: 10}, {On: 5, Off: 15, Part: 1}, {On: 20, Off: 5, Part: -3}}
	for tick, want := range map[int][]int{-1: nil, 0: {1, 2}, 9: {1, 2, 4}, 10: {0, 2, 4}, 11: {0, 4}, 19: {0}, 20: nil} {
		var notes []api.Note
		for _, i := range want {
			notes = append(notes, l[i])
		}
		if got := timeline.Sounding(l, tick); !slices.Equal(got, notes) {
			t.Errorf("Sounding(%d) = %v; want %v", tick, got, notes)
		}
	}
	for part, want := range map[int][]int{0: {0, 3}, 1: {1, 4}, 2: {2}, 3: nil, -3: {5}} {
		var notes []api.Note
		for _, i := range want {
			notes = append(notes, l[i])
		}
		got := timeline.Part(l, part)
		if !slices.Equal(got, notes) {
			t.Errorf("Part(%d) = %v; want %v", part, got, notes)
		}
		for i := range got {
			got[i].On = 77
		}
	}
	if l[0].On != 10 || l[1].On != 0 {
		t.Error("Part returns notes of its argument")
	}
	if len(timeline.Sounding(nil, 0)) != 0 || len(timeline.Part(nil, 0)) != 0 || len(timeline.Sort(nil)) != 0 {
		t.Error("there are notes in an empty list")
	}
}

// wildNote returns a note with small numbers.
func wildNote(r *sample.Source) api.Note {
	n := func() int { return r.Below(2) }
	return api.Note{On: n(), Off: n(), Number: n(), Part: n(), Staff: n(), Voice: n(), Event: api.ID{Site: n(), Number: n()}, Head: n()}
}

func TestP17_6Order(t *testing.T) {
	results := map[int]int{}
	for seed := range 3000 {
		r := sample.New(seed)
		a, b := wildNote(r), wildNote(r)
		if r.Chance(60) { // notes that differ in a single field
			b = a
			*sample.Pick(r, &b.On, &b.Off, &b.Number, &b.Part, &b.Staff, &b.Voice, &b.Event.Site, &b.Event.Number, &b.Head) += r.Below(3) - 1
		}
		want := 0
		if before(a, b) {
			want = -1
		} else if before(b, a) {
			want = 1
		}
		results[want]++
		if got := timeline.Compare(a, b); got != want || timeline.Compare(b, a) != -want {
			t.Fatalf("Compare(%v, %v) = %d; want %d", a, b, got, want)
		}
		var l []api.Note
		for range r.Below(12) {
			l = append(l, wildNote(r))
		}
		kept := slices.Clone(l)
		sorted := timeline.Sort(l)
		if !slices.Equal(sorted, sortedOf(l)) || !slices.Equal(l, kept) {
			t.Fatalf("Sort(%v) = %v", kept, sorted)
		}
	}
	for _, want := range []int{-1, 0, 1} {
		if results[want] < 300 {
			t.Error("results of Compare:", results)
		}
	}
	if timeline.Compare(api.Note{Off: -1 << 63}, api.Note{Off: 1<<63 - 1}) != -1 {
		t.Error("Compare of the least and the greatest number")
	}
}

func TestP17_7SameSound(t *testing.T) {
	a := []api.Note{{On: 1, Off: 2, Number: 60}, {On: 1, Off: 3, Number: 60, Head: 1}, {On: 1, Off: 2, Number: 61, Part: 2}}
	b := []api.Note{{On: 1, Off: 2, Number: 61, Event: api.ID{Number: 7}}, {On: 1, Off: 2, Number: 60, Voice: 1}, {On: 1, Off: 3, Number: 60, Staff: 5}}
	if !timeline.SameSound(a, b) || !timeline.SameSound(b, a) || !timeline.SameSound(nil, nil) {
		t.Error("the same notes do not sound the same")
	}
	for i := range b {
		for _, change := range []func(n *api.Note){func(n *api.Note) { n.On = 0 }, func(n *api.Note) { n.Off = 9 }, func(n *api.Note) { n.Number = 59 }} {
			c := slices.Clone(b)
			change(&c[i])
			if timeline.SameSound(a, c) || timeline.SameSound(c, a) {
				t.Errorf("%v and %v sound the same", a, c)
			}
		}
		if c := slices.Delete(slices.Clone(b), i, i+1); timeline.SameSound(a, c) || timeline.SameSound(c, a) {
			t.Errorf("%v and %v sound the same", a, c)
		}
	}
	if timeline.SameSound(append(slices.Clone(a), a[0]), append(slices.Clone(b), b[0])) {
		t.Error("how often a note sounds does not matter")
	}
}

func TestP17_7AtRandom(t *testing.T) {
	same := 0
	for seed := range 3000 {
		r := sample.New(seed)
		var a, b []api.Note
		for range r.Below(4) {
			a = append(a, wildNote(r))
		}
		for range r.Below(4) {
			b = append(b, wildNote(r))
		}
		if r.Chance(30) {
			b = slices.Clone(a)
			slices.Reverse(b)
		}
		count := map[[3]int]int{}
		for _, x := range sound(a) {
			count[x]++
		}
		for _, x := range sound(b) {
			count[x]--
		}
		want := true
		for _, n := range count {
			want = want && n == 0
		}
		if want {
			same++
		}
		if got := timeline.SameSound(a, b); got != want {
			t.Fatalf("SameSound(%v, %v) = %t", a, b, got)
		}
	}
	if same < 500 || same > 2500 {
		t.Error("lists that sound the same:", same)
	}
}

func TestP17_8Sounding(t *testing.T) {
	scores(t, 200, func(r *sample.Source, s api.Score) {
		notes, _ := timeline.Notes(s)
		starts, _ := timeline.Starts(s)
		for _, n := range notes {
			if n.On < 0 || n.Off <= n.On || n.Off > starts[len(starts)-1] {
				t.Fatalf("the note %v is not within the score", n)
			}
		}
		for range 5 {
			i, staff := r.Below(len(s.Measures)), r.Below(score.Staves(s))
			length := lengthOf(s.Measures[i])
			tick := r.Below(length)
			part, index, _ := score.PartOf(s, staff)
			for k, v := range s.Measures[i].Cells[staff].Voices {
				sounding := 0
				for _, n := range timeline.Sounding(timeline.Part(notes, part), starts[i]+tick) {
					if n.Staff == index && n.Voice == k {
						sounding++
					}
				}
				if heads := voice.Sounding(v, length, tick); len(heads) != sounding {
					t.Fatalf("%d notes sound of %d heads", sounding, len(heads))
				}
			}
		}
	})
}

func TestP17_8Respell(t *testing.T) {
	respelled := 0
	scores(t, 200, func(r *sample.Source, s api.Score) {
		other := score.Clone(s)
		for _, m := range other.Measures {
			for _, c := range m.Cells {
				for _, v := range c.Voices {
					for _, x := range v.Events {
						for k := range x.Heads {
							x.Heads[k].Tied = false
							if p, e := pitch.Respell(x.Heads[k].Pitch, 1-2*r.Below(2)); e == api.OK && r.Chance(50) {
								x.Heads[k].Pitch = p
								respelled++
							}
						}
					}
				}
			}
		}
		untied := score.Clone(s)
		for _, m := range untied.Measures {
			for _, c := range m.Cells {
				for _, v := range c.Voices {
					for _, x := range v.Events {
						for k := range x.Heads {
							x.Heads[k].Tied = false
						}
					}
				}
			}
		}
		if !check.Valid(other) {
			t.Fatalf("a score whose pitches are respelled is not valid: %v", check.Check(other))
		}
		a, _ := timeline.Notes(untied)
		b, _ := timeline.Notes(other)
		if !timeline.SameSound(a, b) {
			t.Fatal("respelling changes what sounds")
		}
	})
	if respelled < 1000 {
		t.Error("only", respelled, "heads were respelled")
	}
}
