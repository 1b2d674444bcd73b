package score_test

import (
	"encoding/json"
	"fmt"
	"reflect"
	"testing"

	"hemiola/api"
	"hemiola/sample"
	"hemiola/score"
)

// text returns a text that is equal for equal values; nil lists are equal to empty ones.
func text(x any) string { return fmt.Sprintf("%+v", x) }

// copied returns an independent copy.
func copied[T any](x T) T {
	data, err := json.Marshal(x)
	if err != nil {
		panic(err)
	}
	var out T
	if err := json.Unmarshal(data, &out); err != nil {
		panic(err)
	}
	return out
}

// spoil changes all that the lists of a value contain.
func spoil(x any) { spoilValue(reflect.ValueOf(x)) }

func spoilValue(v reflect.Value) {
	switch v.Kind() {
	case reflect.Slice:
		for i := range v.Len() {
			spoilValue(v.Index(i))
		}
	case reflect.Struct:
		for i := range v.NumField() {
			spoilValue(v.Field(i))
		}
	case reflect.Array:
		for i := range v.Len() {
			spoilValue(v.Index(i))
		}
	case reflect.Int:
		if v.CanSet() {
			v.SetInt(v.Int() - 7777)
		}
	}
}

// wild returns a score that need not be valid: its ids are often the same or zero, and cells may be missing.
func wild(r *sample.Source) api.Score {
	id := func() api.ID { return api.ID{Site: r.Below(3), Number: r.Below(8)} }
	s := api.Score{Title: sample.Pick(r, "", "A"), Written: r.Chance(50)}
	staves := 0
	for range r.Below(4) {
		p := api.Part{ID: id(), Name: sample.Pick(r, "", "B"), Transpose: api.Interval{Steps: r.Below(3)}}
		for range r.Below(3) {
			p.Staves = append(p.Staves, api.Staff{ID: id(), Clef: r.Below(5)})
			staves++
		}
		s.Parts = append(s.Parts, p)
	}
	uneven := r.Chance(30)
	for range r.Below(4) {
		n := staves
		if uneven && r.Chance(30) {
			n = r.Below(4)
		}
		s.Measures = append(s.Measures, wildMeasure(r, id, n))
	}
	for range r.Below(4) {
		s.Spanners = append(s.Spanners, api.Spanner{ID: id(), Kind: r.Below(9), From: id(), To: id()})
	}
	for range r.Below(4) {
		s.Last = append(s.Last, api.ID{Site: r.Below(6), Number: r.Below(20)})
	}
	return s
}

func wildMeasure(r *sample.Source, id func() api.ID, cells int) api.Measure {
	m := api.Measure{ID: id(), Length: r.Below(9), Rehearsal: sample.Pick(r, "", "C"), Tempi: make([]api.TempoMark, r.Below(2))}
	for range cells {
		m.Cells = append(m.Cells, wildCell(r, id))
	}
	return m
}

func wildCell(r *sample.Source, id func() api.ID) api.Cell {
	var c api.Cell
	c.Clefs = make([]api.ClefChange, r.Below(2))
	for range r.Below(3) {
		v := api.Voice{Tuplets: make([]api.Tuplet, r.Below(2))}
		for range r.Below(4) {
			v.Events = append(v.Events, wildEvent(r, id))
		}
		c.Voices = append(c.Voices, v)
	}
	return c
}

func wildEvent(r *sample.Source, id func() api.ID) api.Event {
	return api.Event{ID: id(), Kind: r.Below(5), Heads: make([]api.Head, r.Below(3)), Graces: make([]api.Grace, r.Below(2)), Lyrics: make([]api.Syllable, r.Below(2)), Dynamic: r.Below(3)}
}

// scores calls a function with many scores, valid and wild ones, and fails if it changes them.
func scores(t *testing.T, n int, look func(r *sample.Source, s api.Score)) {
	t.Helper()
	t.Parallel()
	for seed := range n {
		r := sample.New(seed)
		s := wild(r)
		if seed%50 == 0 {
			s = sample.Score(r)
		}
		before := text(s)
		look(r, s)
		if after := text(s); after != before {
			t.Fatalf("seed %d: the score was changed from %s to %s", seed, before, after)
		}
	}
}

// object is an object of a score, and events those in the order of the score.
type object struct {
	place score.Place
	id    api.ID
}

func objectsOf(s api.Score) []object {
	var l []object
	staves := 0
	for i, p := range s.Parts {
		l = append(l, object{score.Place{Kind: 1, Part: i}, p.ID})
		for _, x := range p.Staves {
			l = append(l, object{score.Place{Kind: 2, Staff: staves}, x.ID})
			staves++
		}
	}
	for i, m := range s.Measures {
		l = append(l, object{score.Place{Kind: 3, Measure: i}, m.ID})
		for staff, c := range m.Cells {
			for k, v := range c.Voices {
				for n, x := range v.Events {
					l = append(l, object{score.Place{Kind: 4, Measure: i, Staff: staff, Voice: k, Event: n}, x.ID})
				}
			}
		}
	}
	for i, x := range s.Spanners {
		l = append(l, object{score.Place{Kind: 5, Spanner: i}, x.ID})
	}
	return l
}

// eventsOf returns the objects that are events.
func eventsOf(s api.Score) []object {
	var l []object
	for _, o := range objectsOf(s) {
		if o.place.Kind == 4 {
			l = append(l, o)
		}
	}
	return l
}

// pruned returns a copy without the spanners that have an end which is not the id of an event.
func pruned(s api.Score) api.Score {
	out := copied(s)
	out.Spanners = nil
	for _, x := range s.Spanners {
		from, to := false, false
		for _, o := range eventsOf(s) {
			from, to = from || o.id == x.From, to || o.id == x.To
		}
		if from && to {
			out.Spanners = append(out.Spanners, x)
		}
	}
	return out
}

// agree fails if a result and its error are not those that are wanted, or the result is not new memory.
func agree(t *testing.T, what string, got api.Score, e api.Errno, want api.Score, wanted api.Errno) {
	t.Helper()
	if text(got) != text(want) || e != wanted {
		t.Fatalf("%s = %s, error %d; want %s, error %d", what, text(got), e, text(want), wanted)
	}
	spoil(got)
}
