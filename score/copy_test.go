package score_test

import (
	"math"
	"reflect"
	"strings"
	"testing"

	"hemiola/api"
	"hemiola/sample"
	"hemiola/score"
)

func TestP15_6Prune(t *testing.T) {
	removed := 0
	scores(t, 2000, func(r *sample.Source, s api.Score) {
		want := pruned(s)
		removed += len(s.Spanners) - len(want.Spanners)
		agree(t, "Prune", score.Prune(s), api.OK, want, api.OK)
	})
	if removed < 500 {
		t.Error("only", removed, "spanners were removed")
	}
	// The ids of parts, staves, measures and spanners are no ends.
	s := sample.Read("1", "4/4 : C4:2 r:2")
	for number := range 7 {
		for _, x := range []api.Spanner{{From: api.ID{Number: 4}, To: api.ID{Number: number}}, {From: api.ID{Number: number}, To: api.ID{Number: 5}}} {
			x.ID.Number = 6
			s.Spanners = []api.Spanner{x}
			if kept := len(score.Prune(s).Spanners) == 1; kept != (number == 4 || number == 5) {
				t.Errorf("the spanner %+v is kept: %t", x, kept)
			}
		}
	}
}

// lastOf returns the index of the first element of a site, or -1.
func lastOf(s api.Score, site int) int {
	for i, id := range s.Last {
		if id.Site == site {
			return i
		}
	}
	return -1
}

func giveOf(s api.Score, site, number int) (api.Score, api.Errno) {
	if site < 0 || site > 99 || number < 1 || number > 1<<30 {
		return api.Score{}, api.ErrRange
	}
	i := lastOf(s, site)
	if i >= 0 && number <= s.Last[i].Number {
		return api.Score{}, api.ErrSequence
	}
	out := copied(s)
	if i >= 0 {
		out.Last[i].Number = number
		return out, api.OK
	}
	out.Last = nil
	inserted := false
	for _, id := range s.Last {
		if id.Site > site && !inserted {
			out.Last = append(out.Last, api.ID{Site: site, Number: number})
			inserted = true
		}
		out.Last = append(out.Last, id)
	}
	if !inserted {
		out.Last = append(out.Last, api.ID{Site: site, Number: number})
	}
	return out, api.OK
}

func TestP15_6Give(t *testing.T) {
	errors := map[api.Errno]int{}
	scores(t, 3000, func(r *sample.Source, s api.Score) {
		site := r.Below(7)
		number := 1 + r.Below(20)
		switch r.Below(20) {
		case 0:
			site = sample.Pick(r, -1, 100, 99, math.MinInt, math.MaxInt)
		case 1:
			number = sample.Pick(r, 0, -1, 1<<30, 1<<30+1, math.MinInt, math.MaxInt)
		}
		last := 0
		if i := lastOf(s, site); i >= 0 {
			last = s.Last[i].Number
		}
		if got := score.Last(s, site); got != last {
			t.Fatalf("Last(%v, %d) = %d; want %d", s.Last, site, got, last)
		}
		want, wanted := giveOf(s, site, number)
		got, e := score.Give(s, site, number)
		agree(t, "Give", got, e, want, wanted)
		errors[e]++
	})
	for _, e := range []api.Errno{api.OK, api.ErrRange, api.ErrSequence} {
		if errors[e] < 50 {
			t.Errorf("the error %d occurred only %d times", e, errors[e])
		}
	}
}

func TestP15_6GiveInOrder(t *testing.T) {
	s := score.New("A", 1)
	for _, c := range []struct {
		site, number int
		e            api.Errno
		want         string
	}{
		{3, 7, api.OK, "[{0 2} {3 7}]"}, {1, 1, api.OK, "[{0 2} {1 1} {3 7}]"}, {99, 1 << 30, api.OK, "[{0 2} {1 1} {3 7} {99 1073741824}]"}, {0, 3, api.OK, "[{0 3} {1 1} {3 7} {99 1073741824}]"},
		{3, 7, api.ErrSequence, ""}, {3, 6, api.ErrSequence, ""}, {99, 1 << 30, api.ErrSequence, ""},
		{100, 1, api.ErrRange, ""}, {-1, 1, api.ErrRange, ""}, {3, 0, api.ErrRange, ""}, {99, 1<<30 + 1, api.ErrRange, ""},
	} {
		out, e := score.Give(s, c.site, c.number)
		if e != c.e || e == api.OK && strings.NewReplacer("Site:", "", "Number:", "").Replace(text(out.Last)) != c.want {
			t.Errorf("Give(%d, %d) has the Last %v, error %d; want %s, error %d", c.site, c.number, out.Last, e, c.want, c.e)
		}
		if e == api.OK {
			s = out
		}
	}
	// A site that has given the number 0 is changed in its place, and of elements with the same site the first one counts.
	s.Last = []api.ID{{Site: 5}, {Site: 2, Number: 9}, {Site: 5, Number: 8}}
	if n := score.Last(s, 5); n != 0 {
		t.Error("Last of the first element =", n)
	}
	if out, e := score.Give(s, 5, 1); e != api.OK || text(out.Last) != text([]api.ID{{Site: 5, Number: 1}, {Site: 2, Number: 9}, {Site: 5, Number: 8}}) {
		t.Errorf("Give has the Last %v, error %d", out.Last, e)
	}
	if out, e := score.Give(s, 1, 1); e != api.OK || out.Last[0] != (api.ID{Site: 1, Number: 1}) {
		t.Errorf("Give has the Last %v, error %d", out.Last, e)
	}
}

func renumberOf(s api.Score) api.Score {
	out := copied(s)
	objects := objectsOf(s)
	number := 0
	next := func() api.ID {
		number++
		return api.ID{Number: number}
	}
	for i := range out.Parts {
		out.Parts[i].ID = next()
		for k := range out.Parts[i].Staves {
			out.Parts[i].Staves[k].ID = next()
		}
	}
	for i := range out.Measures {
		out.Measures[i].ID = next()
		for _, c := range out.Measures[i].Cells {
			for _, v := range c.Voices {
				for k := range v.Events {
					v.Events[k].ID = next()
				}
			}
		}
	}
	end := func(id api.ID) api.ID {
		for i, o := range objects {
			if o.place.Kind == score.Event && o.id == id && id != (api.ID{}) {
				return api.ID{Number: i + 1}
			}
		}
		return api.ID{}
	}
	for i, x := range out.Spanners {
		out.Spanners[i] = api.Spanner{ID: next(), Kind: x.Kind, From: end(x.From), To: end(x.To)}
	}
	out.Last = nil
	if number > 0 {
		out.Last = []api.ID{{Number: number}}
	}
	return out
}

func TestP15_7Renumber(t *testing.T) {
	joined, lost := 0, 0
	scores(t, 3000, func(r *sample.Source, s api.Score) {
		want := renumberOf(s)
		for _, x := range want.Spanners {
			if x.From == (api.ID{}) {
				lost++
			} else {
				joined++
			}
		}
		got := score.Renumber(s)
		if again := score.Renumber(got); text(again) != text(renumberOf(got)) {
			t.Fatalf("Renumber(%s) = %s", text(got), text(again))
		}
		agree(t, "Renumber", got, api.OK, want, api.OK)
	})
	if joined < 500 || lost < 500 {
		t.Errorf("%d ends of spanners are those of events, %d are not", joined, lost)
	}
	if got := score.Renumber(api.Score{Last: []api.ID{{Site: 1, Number: 1}}}); len(got.Last) != 0 {
		t.Error("Renumber of no objects has the Last", got.Last)
	}
}

func TestP15_9RenumberTwice(t *testing.T) {
	scores(t, 1000, func(r *sample.Source, s api.Score) {
		once := score.Renumber(s)
		if twice := score.Renumber(once); text(twice) != text(once) {
			t.Fatalf("Renumber(%s) = %s", text(once), text(twice))
		}
		for i, id := range score.IDs(once) {
			if p, found := score.Find(once, id); !found || id != (api.ID{Number: i + 1}) || p != objectsOf(s)[i].place {
				t.Fatalf("Find(%s, %v) = %+v, %t", text(once), id, p, found)
			}
		}
	})
}

// leaves calls a function for each number, truth value and text in a value that can be changed, with its path.
func leaves(v reflect.Value, path string, look func(path string, v reflect.Value)) {
	switch v.Kind() {
	case reflect.Struct:
		for i := range v.NumField() {
			leaves(v.Field(i), path+"."+v.Type().Field(i).Name, look)
		}
	case reflect.Slice, reflect.Array:
		for i := range v.Len() {
			leaves(v.Index(i), path, look)
		}
	default:
		look(path, v)
	}
}

// change changes a number, a truth value or a text.
func change(v reflect.Value) {
	switch v.Kind() {
	case reflect.Int:
		v.SetInt(v.Int() + 1000)
	case reflect.Bool:
		v.SetBool(!v.Bool())
	case reflect.String:
		v.SetString(v.String() + "x")
	}
}

// complete returns a score with something in every field.
func complete() api.Score {
	s := sample.Read("12", "4/4 k1 s1 : @0=2 C4+E4~:2/la-/_ (3:2 r:4 r:4 r:4 ) | R ; R ; R", "4/4 l1451520 r2 j1 t2 : R ; R ; R")
	x := &s.Measures[0].Cells[0].Voices[0].Events[0]
	x.Graces, x.Articulations, x.Ornament, x.Dynamic, x.Stem, x.Beam = []api.Grace{{Log: 3}}, 1, 1, 1, 1, 1
	s.Measures[1].Tempi = []api.TempoMark{{At: 0, Micros: 1, Ramp: true}}
	s.Spanners = []api.Spanner{{Kind: api.Slur, From: x.ID, To: s.Measures[0].Cells[0].Voices[0].Events[1].ID}}
	return score.Renumber(s)
}

func TestP15_8Equal(t *testing.T) {
	s := complete()
	paths := map[string]bool{}
	count := 0
	leaves(reflect.ValueOf(s), "", func(string, reflect.Value) { count++ })
	for i := range count {
		other, n := copied(s), 0
		var changed string
		leaves(reflect.ValueOf(&other).Elem(), "", func(path string, v reflect.Value) {
			if n == i {
				change(v)
				changed = path
			}
			n++
		})
		paths[changed] = true
		if score.Equal(s, other) || score.Equal(other, s) {
			t.Errorf("scores are equal though %s was changed", changed)
		}
		// Ids do not matter, but the ends of spanners do.
		id := strings.Contains(changed, ".ID.") || strings.Contains(changed, ".Last.")
		if id && strings.Contains(changed, ".Events.") {
			continue // it may be that of an end
		}
		if score.Same(s, other) != id || score.Same(other, s) != id {
			t.Errorf("scores are the same: %t, when %s was changed", !id, changed)
		}
	}
	if len(paths) < 65 {
		t.Errorf("only %d fields were changed: %v", len(paths), paths)
	}
	if !score.Equal(s, complete()) || !score.Same(s, complete()) {
		t.Error("equal scores are not equal")
	}
	empty := api.Score{Parts: []api.Part{}, Measures: []api.Measure{}, Spanners: []api.Spanner{}, Last: []api.ID{}}
	if !score.Equal(empty, api.Score{}) || !score.Equal(api.Score{Parts: []api.Part{{Staves: []api.Staff{}}}}, api.Score{Parts: []api.Part{{}}}) {
		t.Error("empty lists are not equal to those that are nil")
	}
}

func TestP15_8Lengths(t *testing.T) {
	s := complete()
	for i, shorten := range []func(s *api.Score){
		func(s *api.Score) { s.Parts = s.Parts[:1] }, func(s *api.Score) { s.Parts[1].Staves = s.Parts[1].Staves[:1] }, func(s *api.Score) { s.Measures = s.Measures[:1] }, func(s *api.Score) { s.Spanners = nil },
		func(s *api.Score) { s.Measures[0].Cells = s.Measures[0].Cells[:2] }, func(s *api.Score) { s.Measures[1].Tempi = nil },
	} {
		other := copied(s)
		shorten(&other)
		if score.Equal(s, other) || score.Equal(other, s) || score.Same(s, other) || score.Same(other, s) {
			t.Errorf("%d: a score is equal to a shorter one", i)
		}
	}
	other := copied(s)
	other.Last = nil
	if score.Equal(s, other) || !score.Same(s, other) {
		t.Error("Last matters to Same, or does not matter to Equal")
	}
}

func TestP15_8AtRandom(t *testing.T) {
	before := complete()
	same := 0
	scores(t, 2000, func(r *sample.Source, s api.Score) {
		agree(t, "Clone", score.Clone(s), api.OK, s, api.OK)
		if !score.Equal(s, copied(s)) || score.Equal(s, before) != (text(s) == text(before)) {
			t.Fatalf("Equal(%s, %s) = %t", text(s), text(before), score.Equal(s, before))
		}
		other := copied(s)
		var ids []reflect.Value
		leaves(reflect.ValueOf(&other).Elem(), "", func(path string, v reflect.Value) {
			if strings.HasSuffix(path, ".Number") {
				ids = append(ids, v)
			}
		})
		if len(ids) > 0 {
			ids[r.Below(len(ids))].SetInt(int64(r.Below(8)))
		}
		want := text(renumberOf(s)) == text(renumberOf(other))
		if score.Same(s, other) != want || score.Same(other, s) != want {
			t.Fatalf("Same(%s, %s) = %t", text(s), text(other), !want)
		}
		if want {
			same++
		}
		before = other
	})
	if same < 100 || same > 1980 {
		t.Error("scores that are the same:", same)
	}
}
