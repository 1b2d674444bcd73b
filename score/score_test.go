package score_test

import (
	"math"
	"testing"

	"hemiola/api"
	"hemiola/sample"
	"hemiola/score"
)

func TestP15_1New(t *testing.T) {
	for _, clef := range []int{1, 4, 0, -5, 99} {
		for _, title := range []string{"", "A", "a title\x00"} {
			want := api.Score{Title: title, Parts: []api.Part{{ID: api.ID{Number: 1}, Staves: []api.Staff{{ID: api.ID{Number: 2}, Clef: clef}}}}, Last: []api.ID{{Number: 2}}}
			agree(t, "New", score.New(title, clef), api.OK, want, api.OK)
		}
	}
	if a := score.New("A", 1); text(score.IDs(a)) != "[{Site:0 Number:1} {Site:0 Number:2}]" {
		t.Error("the ids of a new score are", score.IDs(a))
	}
}

func TestP15_1Staves(t *testing.T) {
	s := sample.Read("120", "4/4 : R ; R ; R")
	if n := score.Staves(s); n != 3 {
		t.Error("Staves =", n)
	}
	for part, want := range []int{0, 1, 3} {
		if n, e := score.First(s, part); n != want || e != api.OK {
			t.Errorf("First(%d) = %d, error %d", part, n, e)
		}
	}
	for staff, want := range [][2]int{{0, 0}, {1, 0}, {1, 1}} {
		if part, index, e := score.PartOf(s, staff); part != want[0] || index != want[1] || e != api.OK {
			t.Errorf("PartOf(%d) = %d, %d, error %d", staff, part, index, e)
		}
	}
	if n := score.Staves(api.Score{}); n != 0 {
		t.Error("a score without parts has staves:", n)
	}
}

func TestP15_1StavesAtRandom(t *testing.T) {
	scores(t, 500, func(r *sample.Source, s api.Score) {
		var owner, index []int
		for i, p := range s.Parts {
			if n, e := score.First(s, i); n != len(owner) || e != api.OK {
				t.Fatalf("First(%s, %d) = %d, error %d", text(s), i, n, e)
			}
			for k := range p.Staves {
				owner, index = append(owner, i), append(index, k)
			}
		}
		if n := score.Staves(s); n != len(owner) {
			t.Fatalf("Staves(%s) = %d", text(s), n)
		}
		for staff := range owner {
			if part, k, e := score.PartOf(s, staff); part != owner[staff] || k != index[staff] || e != api.OK {
				t.Fatalf("PartOf(%s, %d) = %d, %d, error %d", text(s), staff, part, k, e)
			}
		}
		for _, n := range []int{-1, math.MinInt, math.MaxInt} {
			if first, e := score.First(s, n); first != 0 || e != api.ErrRange {
				t.Fatalf("First(%d) = %d, error %d", n, first, e)
			}
			if part, k, e := score.PartOf(s, n); part != 0 || k != 0 || e != api.ErrRange {
				t.Fatalf("PartOf(%d) = %d, %d, error %d", n, part, k, e)
			}
		}
		if first, e := score.First(s, len(s.Parts)); first != 0 || e != api.ErrRange {
			t.Fatalf("First of no part = %d, error %d", first, e)
		}
		if part, k, e := score.PartOf(s, len(owner)); part != 0 || k != 0 || e != api.ErrRange {
			t.Fatalf("PartOf of no staff = %d, %d, error %d", part, k, e)
		}
	})
}

func TestP15_2Order(t *testing.T) {
	s := sample.Read("12", "4/4 : C4:2 r:2 | R ; R ; R", "3/4 : R ; R ; R")
	s.Spanners = []api.Spanner{{ID: api.ID{Number: 20}}}
	want := []score.Place{
		{Kind: score.Part}, {Kind: score.Staff}, {Kind: score.Part, Part: 1}, {Kind: score.Staff, Staff: 1}, {Kind: score.Staff, Staff: 2},
		{Kind: score.Measure}, {Kind: score.Event}, {Kind: score.Event, Event: 1}, {Kind: score.Event, Voice: 1}, {Kind: score.Event, Staff: 1}, {Kind: score.Event, Staff: 2},
		{Kind: score.Measure, Measure: 1}, {Kind: score.Event, Measure: 1}, {Kind: score.Event, Measure: 1, Staff: 1}, {Kind: score.Event, Measure: 1, Staff: 2},
	}
	for i, p := range want {
		if got, found := score.Find(s, api.ID{Number: i + 1}); got != p || !found {
			t.Errorf("Find(@0.%d) = %+v, %t; want %+v", i+1, got, found, p)
		}
	}
	if got, found := score.Find(s, api.ID{Number: 20}); got != (score.Place{Kind: score.Spanner}) || !found {
		t.Errorf("Find of the spanner = %+v, %t", got, found)
	}
	for _, id := range []api.ID{{}, {Number: 16}, {Site: 1, Number: 1}, {Number: -1}} {
		if got, found := score.Find(s, id); got != (score.Place{}) || found {
			t.Errorf("Find(%v) = %+v, %t", id, got, found)
		}
	}
	if ids := score.IDs(api.Score{}); len(ids) != 0 {
		t.Error("an empty score has ids:", ids)
	}
}

func TestP15_2AtRandom(t *testing.T) {
	kinds := map[int]int{}
	scores(t, 2000, func(r *sample.Source, s api.Score) {
		var ids []api.ID
		first := map[api.ID]score.Place{}
		for _, o := range objectsOf(s) {
			ids = append(ids, o.id)
			if _, known := first[o.id]; !known && o.id != (api.ID{}) {
				first[o.id] = o.place
			}
		}
		got := score.IDs(s)
		if text(got) != text(ids) {
			t.Fatalf("IDs(%s) = %v; want %v", text(s), got, ids)
		}
		spoil(got)
		for _, id := range append(ids, api.ID{Site: 2, Number: 9}, api.ID{}, api.ID{Site: 1}) {
			want, is := first[id]
			if p, found := score.Find(s, id); p != want || found != is {
				t.Fatalf("Find(%s, %v) = %+v, %t; want %+v", text(s), id, p, found, want)
			}
			kinds[want.Kind]++
		}
	})
	for kind := range 6 {
		if kinds[kind] < 100 {
			t.Errorf("the kind %d was found only %d times", kind, kinds[kind])
		}
	}
}
