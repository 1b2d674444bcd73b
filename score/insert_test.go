package score_test

import (
	"math"
	"slices"
	"testing"

	"hemiola/api"
	"hemiola/sample"
	"hemiola/score"
)

// someIndex returns a number from 0 to n, or one beyond these.
func someIndex(r *sample.Source, n int) int {
	if r.Chance(15) {
		return sample.Pick(r, -1, n+1, math.MinInt, math.MaxInt)
	}
	return r.Below(n + 1)
}

func stavesOf(l []api.Part) int {
	n := 0
	for _, p := range l {
		n += len(p.Staves)
	}
	return n
}

// uneven reports whether a measure has not as many cells as there are staves.
func uneven(l []api.Measure, staves int) bool {
	for _, m := range l {
		if len(m.Cells) != staves {
			return true
		}
	}
	return false
}

func insertPartOf(s api.Score, at int, p api.Part, cells [][]api.Cell) (api.Score, api.Errno) {
	if at < 0 || at > len(s.Parts) {
		return api.Score{}, api.ErrRange
	}
	if len(s.Parts) >= 32 {
		return api.Score{}, api.ErrLimit
	}
	if uneven(s.Measures, stavesOf(s.Parts)) {
		return api.Score{}, api.ErrFormat
	}
	if len(cells) != len(s.Measures) {
		return api.Score{}, api.ErrLength
	}
	out := copied(s)
	out.Parts = append(append(copied(s.Parts[:at]), p), s.Parts[at:]...)
	first := stavesOf(s.Parts[:at])
	for i, l := range cells {
		if len(l) != len(p.Staves) {
			return api.Score{}, api.ErrLength
		}
		out.Measures[i].Cells = append(append(copied(s.Measures[i].Cells[:first]), l...), s.Measures[i].Cells[first:]...)
	}
	return copied(out), api.OK
}

func deletePartOf(s api.Score, at int) (api.Score, api.Errno) {
	if at < 0 || at >= len(s.Parts) {
		return api.Score{}, api.ErrRange
	}
	if uneven(s.Measures, stavesOf(s.Parts)) {
		return api.Score{}, api.ErrFormat
	}
	out := copied(s)
	out.Parts = append(copied(s.Parts[:at]), s.Parts[at+1:]...)
	first, after := stavesOf(s.Parts[:at]), stavesOf(s.Parts[:at+1])
	for i, m := range s.Measures {
		out.Measures[i].Cells = append(copied(m.Cells[:first]), m.Cells[after:]...)
	}
	return pruned(out), api.OK
}

func TestP15_4Parts(t *testing.T) {
	errors := map[string]int{}
	scores(t, 3000, func(r *sample.Source, s api.Score) {
		other := wild(r)
		p := api.Part{ID: api.ID{Site: 1, Number: r.Below(8)}, Name: "new", Staves: make([]api.Staff, r.Below(3))}
		cells := make([][]api.Cell, len(s.Measures)+sometimes(r, 1))
		for i := range cells {
			n := len(p.Staves) + sometimes(r, r.Below(3)-1)
			for range max(n, 0) {
				c := api.Cell{}
				if l := slices.Concat(other.Measures); len(l) > 0 && len(l[0].Cells) > 0 {
					c = copied(l[0].Cells[0])
				}
				cells[i] = append(cells[i], c)
			}
		}
		at := someIndex(r, len(s.Parts))
		before := text(p) + text(cells)
		want, wanted := insertPartOf(s, at, p, cells)
		got, e := score.InsertPart(s, at, p, cells)
		agree(t, "InsertPart", got, e, want, wanted)
		if text(p)+text(cells) != before {
			t.Fatal("InsertPart keeps its arguments")
		}
		errors["insert "+text(int(e))]++
		want, wanted = deletePartOf(s, at)
		got, e = score.DeletePart(s, at)
		agree(t, "DeletePart", got, e, want, wanted)
		errors["delete "+text(int(e))]++
	})
	for _, what := range []string{"insert 0", "insert 2", "insert 3", "insert 20", "delete 0", "delete 2", "delete 3"} {
		if errors[what] < 80 {
			t.Errorf("%s occurred only %d times", what, errors[what])
		}
	}
}

// sometimes returns n in one of ten cases, and otherwise 0.
func sometimes(r *sample.Source, n int) int {
	if r.Chance(10) {
		return n
	}
	return 0
}

func TestP15_4Limits(t *testing.T) {
	s := api.Score{Parts: make([]api.Part, 31)}
	out, e := score.InsertPart(s, 31, api.Part{Name: "last"}, nil)
	if e != api.OK || len(out.Parts) != 32 || out.Parts[31].Name != "last" {
		t.Errorf("InsertPart of the 32nd part: %d parts, error %d", len(out.Parts), e)
	}
	// The limit comes before the cells, and the index before the limit.
	full := api.Score{Parts: make([]api.Part, 32), Measures: []api.Measure{{Cells: make([]api.Cell, 1)}}}
	for at, want := range map[int]api.Errno{0: api.ErrLimit, 32: api.ErrLimit, 33: api.ErrRange, -1: api.ErrRange} {
		if out, e := score.InsertPart(full, at, api.Part{}, nil); e != want || text(out) != text(api.Score{}) {
			t.Errorf("InsertPart at %d of 32 parts: %s, error %d", at, text(out), e)
		}
	}
	full.Parts = append(full.Parts, api.Part{})
	if _, e := score.InsertPart(full, 0, api.Part{}, nil); e != api.ErrLimit {
		t.Error("InsertPart into 33 parts: error", e)
	}
	full.Parts = full.Parts[:31]
	if _, e := score.InsertPart(full, 0, api.Part{}, nil); e != api.ErrFormat {
		t.Error("InsertPart into a measure with too many cells: error", e)
	}
	if _, e := score.DeletePart(full, 31); e != api.ErrRange {
		t.Error("DeletePart of no part: error", e)
	}
}

func insertMeasuresOf(s api.Score, at int, l []api.Measure) (api.Score, api.Errno) {
	if at < 0 || at > len(s.Measures) {
		return api.Score{}, api.ErrRange
	}
	if len(s.Measures)+len(l) > 1024 {
		return api.Score{}, api.ErrLimit
	}
	if uneven(l, stavesOf(s.Parts)) {
		return api.Score{}, api.ErrLength
	}
	out := copied(s)
	out.Measures = append(append(copied(s.Measures[:at]), l...), s.Measures[at:]...)
	return copied(out), api.OK
}

func TestP15_5Measures(t *testing.T) {
	errors := map[string]int{}
	scores(t, 3000, func(r *sample.Source, s api.Score) {
		id := func() api.ID { return api.ID{Site: r.Below(3), Number: r.Below(8)} }
		var l []api.Measure
		for range r.Below(3) {
			l = append(l, wildMeasure(r, id, max(stavesOf(s.Parts)+sometimes(r, r.Below(3)-1), 0)))
		}
		at, before := someIndex(r, len(s.Measures)), text(l)
		want, wanted := insertMeasuresOf(s, at, l)
		got, e := score.InsertMeasures(s, at, l)
		agree(t, "InsertMeasures", got, e, want, wanted)
		errors["insert "+text(int(e))]++
		for _, m := range l {
			want, wanted = api.Score{}, api.OK
			switch {
			case at < 0 || at >= len(s.Measures):
				wanted = api.ErrRange
			case len(m.Cells) != stavesOf(s.Parts):
				wanted = api.ErrLength
			default:
				want = copied(s)
				want.Measures[at] = m
				want = pruned(want)
			}
			got, e = score.SetMeasure(s, at, m)
			agree(t, "SetMeasure", got, e, want, wanted)
			errors["set "+text(int(e))]++
		}
		if text(l) != before {
			t.Fatal("a measure is kept")
		}
	})
	for _, what := range []string{"insert 0", "insert 2", "insert 20", "set 0", "set 2", "set 20"} {
		if errors[what] < 60 {
			t.Errorf("%s occurred only %d times", what, errors[what])
		}
	}
}

func TestP15_5Limits(t *testing.T) {
	s := api.Score{Measures: make([]api.Measure, 1023)}
	if out, e := score.InsertMeasures(s, 1023, make([]api.Measure, 1)); e != api.OK || len(out.Measures) != 1024 {
		t.Errorf("InsertMeasures of the 1024th measure: %d, error %d", len(out.Measures), e)
	}
	wrong := []api.Measure{{}, {Cells: make([]api.Cell, 1)}}
	for at, want := range map[int]api.Errno{0: api.ErrLimit, 1023: api.ErrLimit, 1024: api.ErrRange, -1: api.ErrRange} {
		if out, e := score.InsertMeasures(s, at, wrong); e != want || text(out) != text(api.Score{}) {
			t.Errorf("InsertMeasures at %d: %d measures, error %d", at, len(out.Measures), e)
		}
	}
	if _, e := score.InsertMeasures(s, 0, wrong[1:]); e != api.ErrLength {
		t.Error("InsertMeasures of a measure with too many cells: error", e)
	}
}

func TestP15_5Delete(t *testing.T) {
	errors := map[api.Errno]int{}
	scores(t, 2000, func(r *sample.Source, s api.Score) {
		at := someIndex(r, len(s.Measures))
		count := someIndex(r, max(len(s.Measures)-at, 0))
		if at < 0 || at > len(s.Measures) {
			count = r.Below(2)
		}
		var want api.Score
		wanted := api.ErrRange
		if at >= 0 && count >= 0 && at <= len(s.Measures) && count <= len(s.Measures)-at {
			wanted, want = api.OK, copied(s)
			want.Measures = append(copied(s.Measures[:at]), s.Measures[at+count:]...)
			want = pruned(want)
		}
		got, e := score.DeleteMeasures(s, at, count)
		agree(t, "DeleteMeasures", got, e, want, wanted)
		errors[e]++
	})
	if errors[api.OK] < 500 || errors[api.ErrRange] < 200 {
		t.Error("errors:", errors)
	}
	s := api.Score{Measures: make([]api.Measure, 2)}
	for _, c := range [][2]int{{1, math.MaxInt}, {math.MaxInt, 1}, {math.MaxInt, math.MaxInt}, {2, 1}, {3, 0}, {0, 3}, {-1, 1}, {1, -1}} {
		if out, e := score.DeleteMeasures(s, c[0], c[1]); e != api.ErrRange || len(out.Measures) != 0 {
			t.Errorf("DeleteMeasures(%d, %d): error %d", c[0], c[1], e)
		}
	}
	if out, e := score.DeleteMeasures(s, 2, 0); e != api.OK || len(out.Measures) != 2 {
		t.Errorf("DeleteMeasures of none: %d, error %d", len(out.Measures), e)
	}
}

func TestP15_5SetCell(t *testing.T) {
	errors := map[api.Errno]int{}
	scores(t, 2000, func(r *sample.Source, s api.Score) {
		c := wildCell(r, func() api.ID { return api.ID{Site: r.Below(3), Number: r.Below(8)} })
		measure, before := someIndex(r, len(s.Measures)), text(c)
		staff := someIndex(r, 3)
		var want api.Score
		wanted := api.ErrRange
		if measure >= 0 && measure < len(s.Measures) && staff >= 0 && staff < len(s.Measures[measure].Cells) {
			wanted, want = api.OK, copied(s)
			want.Measures[measure].Cells[staff] = c
			want = pruned(want)
		}
		got, e := score.SetCell(s, measure, staff, c)
		agree(t, "SetCell", got, e, want, wanted)
		if text(c) != before {
			t.Fatal("SetCell keeps the cell")
		}
		errors[e]++
	})
	if errors[api.OK] < 200 || errors[api.ErrRange] < 200 {
		t.Error("errors:", errors)
	}
}

func TestP15_9DeleteInserted(t *testing.T) {
	scores(t, 1000, func(r *sample.Source, s api.Score) {
		at := r.Below(len(s.Parts) + 1)
		p := api.Part{Staves: make([]api.Staff, r.Below(3))}
		cells := make([][]api.Cell, len(s.Measures))
		for i := range cells {
			cells[i] = make([]api.Cell, len(p.Staves))
		}
		if out, e := score.InsertPart(s, at, p, cells); e == api.OK {
			out, e = score.DeletePart(out, at)
			agree(t, "DeletePart of InsertPart", out, e, pruned(s), api.OK)
		}
		at = r.Below(len(s.Measures) + 1)
		l := make([]api.Measure, r.Below(3))
		for i := range l {
			l[i].Cells = make([]api.Cell, score.Staves(s))
		}
		out, _ := score.InsertMeasures(s, at, l)
		out, e := score.DeleteMeasures(out, at, len(l))
		agree(t, "DeleteMeasures of InsertMeasures", out, e, pruned(s), api.OK)
	})
}
