package voice_test

import (
	"math"
	"reflect"
	"slices"
	"testing"

	"hemiola/api"
	"hemiola/event"
	"hemiola/tuplet"
	"hemiola/voice"
)

// many returns a voice of a number of equal events.
func many(count int, word string) api.Voice {
	return api.Voice{Events: slices.Repeat(read(word).Events, count)}
}

// with returns a voice with other tuplets.
func with(v api.Voice, l ...api.Tuplet) api.Voice {
	v.Tuplets = l
	return v
}

// wrong returns voices that are not valid in a measure of 4/4, with their errors.
func wrong() []struct {
	v api.Voice
	e api.Errno
} {
	triplet := func(first, count int) api.Tuplet {
		return api.Tuplet{First: first, Count: count, Actual: 3, Normal: 2}
	}
	unordered, silent := read("C4+E4:1"), read("r:2 C4:2")
	unordered.Events[0].Heads[1].Pitch.Step = 0
	silent.Events[1].Heads = nil
	foreign := read("r:2 r:2")
	foreign.Events[1].ID.Site = -1
	return []struct {
		v api.Voice
		e api.Errno
	}{
		{many(129, "r:256"), api.ErrLimit}, {many(129, "R"), api.ErrLimit}, {with(many(129, "r:256"), triplet(-1, 0)), api.ErrLimit},
		{unordered, api.ErrOrder}, {silent, api.ErrShort}, {foreign, api.ErrRange}, {api.Voice{Events: []api.Event{{}}}, api.ErrKind}, {api.Voice{Events: []api.Event{{Kind: api.MeasureRest, Value: api.Value{Log: 2}}}}, api.ErrFormat}, {api.Voice{Events: []api.Event{{Kind: api.Rest, Value: api.Value{Log: 9}}}}, api.ErrValue},
		{read("R R"), api.ErrKind}, {read("r:2 R"), api.ErrKind}, {read("R r:1"), api.ErrKind}, {with(read("r:2 R"), triplet(5, 1)), api.ErrKind}, {api.Voice{Events: append(read("R").Events, api.Event{})}, api.ErrKind}, {api.Voice{Events: append(read("R").Events, foreign.Events...)}, api.ErrKind}, {api.Voice{Events: append(foreign.Events, read("R").Events...)}, api.ErrRange},
		{with(read("R"), triplet(0, 1)), api.ErrTuplet}, {with(read("R"), triplet(-1, 0)), api.ErrTuplet}, {with(read("R"), make([]api.Tuplet, 17)...), api.ErrTuplet},
		{with(api.Voice{}, triplet(0, 1)), api.ErrRange}, {with(api.Voice{}, make([]api.Tuplet, 17)...), api.ErrLimit}, {with(read("r:1"), make([]api.Tuplet, 17)...), api.ErrLimit}, {with(read("r:1"), triplet(0, 2)), api.ErrRange}, {with(read("r:2 r:2"), triplet(1, 1), triplet(0, 1)), api.ErrOrder}, {with(read("r:4 r:4 r:4 r:4"), triplet(0, 2), triplet(1, 2)), api.ErrTuplet}, {with(read("r:4 r:4 r:4 r:4"), triplet(0, 4), triplet(0, 4), triplet(0, 4), triplet(0, 4)), api.ErrTuplet},
		{with(read("r:256"), api.Tuplet{Count: 1, Actual: 32, Normal: 31}), api.ErrTick},
		// The lengths of the first one add up to that of the measure, but a dotted eighth note is no unit.
		{read("(3:2 r:8. r:8. r:8. ) r:8 r:2"), api.ErrTuplet}, {read("(3:2 r:8 r:8 )"), api.ErrTuplet},
		{read("r:2"), api.ErrLength}, {read("r:1 r:256"), api.ErrLength}, {read("C4:2. C4:8"), api.ErrLength}, {read("(3:2 r:8 r:8 r:8 )"), api.ErrLength}, {read("(3:2 r:2 r:2 r:2 ) r:16"), api.ErrLength}, {many(128, "r:b..."), api.ErrLength},
	}
}

func TestP12_1Check(t *testing.T) {
	for i, c := range []struct {
		v      api.Voice
		length int
		e      api.Errno
	}{
		{api.Voice{}, whole, api.OK}, {api.Voice{Events: []api.Event{}, Tuplets: []api.Tuplet{}}, 1, api.OK}, {read("R"), 1, api.OK}, {read("7=R!"), 8 * whole, api.OK}, {read("r:1"), whole, api.OK}, {read("C4:4~ C4:4 r:4! s:4"), whole, api.OK},
		{read("(3:2 G4:8 A4:8 B4:8 ) C5+E5:4 r:4"), 3 * quarter, api.OK}, {read("(3:2 C4:8 (3:2 C4:16 C4:16 C4:16 ) C4:8 ) r:2."), whole, api.OK}, {read("C4:256. r:256."), 3 * finest, api.OK}, {many(128, "r:16"), 8 * whole, api.OK}, {many(128, "r:16."), 8 * whole, api.ErrLength},
		{read("r:1"), 0, api.ErrRange}, {read("r:1"), -1, api.ErrRange}, {read("R"), 8*whole + 1, api.ErrRange}, {api.Voice{}, math.MinInt, api.ErrRange}, {api.Voice{}, math.MaxInt, api.ErrRange}, {many(129, "r:1"), 0, api.ErrRange},
		{read("r:1"), whole - 1, api.ErrLength}, {read("r:1"), whole + 1, api.ErrLength}, {read("r:1"), 1, api.ErrLength},
	} {
		if e := voice.Check(c.v, c.length); e != c.e {
			t.Errorf("%d: Check of a length %d: error %d; want %d", i, c.length, e, c.e)
		}
	}
	for i, c := range wrong() {
		if e := voice.Check(c.v, whole); e != c.e {
			t.Errorf("%d: Check(%v): error %d; want %d", i, c.v, e, c.e)
		}
	}
	if voice.MaxLength != 15482880 {
		t.Error("MaxLength is not that of the chapter")
	}
}

func TestP12_2Lengths(t *testing.T) {
	for i, c := range []struct {
		text            string
		length          int
		lengths, onsets []int
	}{
		{"", whole, nil, nil}, {"R", 12345, []int{12345}, []int{0}}, {"r:1", whole, []int{whole}, []int{0}},
		{"C4:4. r:8 s:2", whole, []int{725760, 241920, 967680}, []int{0, 725760, 967680}},
		{"(3:2 G4:8 A4:8 B4:8 ) C5+E5:4 r:4", 3 * quarter, []int{161280, 161280, 161280, 483840, 483840}, []int{0, 161280, 322560, 483840, 967680}},
		{"r:4 (3:2 C4:8 (3:2 C4:16 C4:16 C4:16 ) C4:8 )", half, []int{483840, 161280, 53760, 53760, 53760, 161280}, []int{0, 483840, 645120, 698880, 752640, 806400}},
	} {
		v := read(c.text)
		lengths, e := voice.Lengths(v, c.length)
		onsets, f := voice.Onsets(v, c.length)
		total, g := voice.Length(v, c.length)
		if !slices.Equal(lengths, c.lengths) || !slices.Equal(onsets, c.onsets) || e != api.OK || f != api.OK || g != api.OK || len(c.lengths) > 0 && total != c.length || len(c.lengths) == 0 && total != 0 {
			t.Errorf("%d: lengths %v, error %d; onsets %v, error %d; length %d, error %d", i, lengths, e, onsets, f, total, g)
		}
	}
}

func TestP12_2Errors(t *testing.T) {
	for i, c := range wrong() {
		lengths, e := voice.Lengths(c.v, whole)
		onsets, f := voice.Onsets(c.v, whole)
		if len(lengths) > 0 || len(onsets) > 0 || e != c.e || f != c.e {
			t.Errorf("%d: Lengths = %v, error %d; Onsets = %v, error %d; want error %d", i, lengths, e, onsets, f, c.e)
		}
		_, want, _ := lengthsOf(c.v, whole)
		if c.e == api.ErrLength {
			c.e = api.OK
		} else {
			want = 0
		}
		if n, e := voice.Length(c.v, whole); n != want || e != c.e {
			t.Errorf("%d: Length = %d, error %d; want %d, error %d", i, n, e, want, c.e)
		}
	}
	for _, c := range []struct{ length, want int }{{1, whole}, {8 * whole, whole}, {whole, whole}} {
		if n, e := voice.Length(read("C4:2 r:2"), c.length); n != c.want || e != api.OK {
			t.Errorf("Length of a whole note in a measure of the length %d = %d, error %d", c.length, n, e)
		}
	}
	if n, e := voice.Length(read("r:1"), 0); n != 0 || e != api.ErrRange {
		t.Errorf("Length in a measure of the length 0 = %d, error %d", n, e)
	}
}

func TestP12_2AtRandom(t *testing.T) {
	found := map[api.Errno]int{}
	voices(t, 4000, func(r source, v api.Voice, p voice.Place, from, to int) {
		switch r.Intn(8) {
		case 0:
			p.Length += pick(r, 1, -1, finest, -finest)
		case 1:
			v = copied(v)
			v.Tuplets = append(v.Tuplets, api.Tuplet{First: r.Intn(4), Count: r.Intn(4), Actual: pick(r, 3, 11), Normal: 2})
			v.Tuplets = tuplet.Canonical(v.Tuplets)
		case 2:
			v = copied(v)
			v.Events[r.Intn(len(v.Events))].Kind = r.Intn(6)
		}
		lengths, total, want := lengthsOf(v, p.Length)
		got, e := voice.Lengths(v, p.Length)
		onsets, f := voice.Onsets(v, p.Length)
		n, g := voice.Length(v, p.Length)
		found[want]++
		if e != want || f != want || voice.Check(v, p.Length) != want || g != want && want != api.ErrLength {
			t.Fatalf("%v: errors %d, %d and %d; want %d", v, e, f, g, want)
		}
		if want == api.OK && (!slices.Equal(got, lengths) || !slices.Equal(onsets, onsetsOf(v, p.Length)[:len(lengths)])) || n != total {
			t.Fatalf("%v: lengths %v, onsets %v, length %d; want %v", v, got, onsets, n, lengths)
		}
		if want != api.OK && (len(got) > 0 || len(onsets) > 0) {
			t.Fatalf("%v: lengths %v and onsets %v with an error", v, got, onsets)
		}
	})
	for _, e := range []api.Errno{api.OK, api.ErrLength, api.ErrTuplet, api.ErrKind, api.ErrTick, api.ErrRange} {
		if found[e] == 0 {
			t.Errorf("the error %d was not tested", e)
		}
	}
}

func TestP12_3At(t *testing.T) {
	v := read("C4:4~ C4:4 r:4 (3:2 C4+E4:8 r:8 G4:8~ )")
	var none []api.Head
	c4, g4 := read("C4:4").Events[0].Heads, read("G4:4~").Events[0].Heads
	for i, c := range []struct {
		tick, index, onset int
		heads              []api.Head
	}{
		{0, 0, 0, read("C4:4~").Events[0].Heads}, {quarter - 1, 0, 0, read("C4:4~").Events[0].Heads}, {quarter, 1, quarter, c4}, {half - 1, 1, quarter, c4}, {half, 2, half, none}, {3 * quarter, 3, 3 * quarter, read("C4+E4:4").Events[0].Heads},
		{3*quarter + 161280, 4, 3*quarter + 161280, none}, {3*quarter + 322559, 4, 3*quarter + 161280, none}, {3*quarter + 322560, 5, 3*quarter + 322560, g4}, {whole - 1, 5, 3*quarter + 322560, g4},
	} {
		index, onset, e := voice.At(v, whole, c.tick)
		heads := voice.Sounding(v, whole, c.tick)
		if index != c.index || onset != c.onset || e != api.OK || !slices.Equal(heads, c.heads) {
			t.Errorf("%d: At %d = %d, %d, error %d; the heads are %v", i, c.tick, index, onset, e, heads)
		}
	}
	for i, c := range []struct {
		v            api.Voice
		length, tick int
		e            api.Errno
	}{
		{v, whole, -1, api.ErrRange}, {v, whole, whole, api.ErrRange}, {v, whole, math.MinInt, api.ErrRange}, {v, whole, math.MaxInt, api.ErrRange}, {api.Voice{}, whole, 0, api.ErrState}, {api.Voice{}, whole, -1, api.ErrState}, {v, whole + 1, 0, api.ErrLength}, {v, 0, 0, api.ErrRange}, {api.Voice{}, 0, 0, api.ErrRange}, {read("R"), 5, 5, api.ErrRange}, {read("R"), 5, 4, api.OK},
	} {
		if index, onset, e := voice.At(c.v, c.length, c.tick); index != 0 || onset != 0 || e != c.e {
			t.Errorf("%d: At = %d, %d, error %d; want error %d", i, index, onset, e, c.e)
		}
		if heads := voice.Sounding(c.v, c.length, c.tick); len(heads) > 0 {
			t.Errorf("%d: Sounding = %v", i, heads)
		}
	}
	for i, c := range wrong() {
		if index, onset, e := voice.At(c.v, whole, 0); index != 0 || onset != 0 || e != c.e || len(voice.Sounding(c.v, whole, 0)) > 0 {
			t.Errorf("%d: At of an invalid voice = %d, %d, error %d; want error %d", i, index, onset, e, c.e)
		}
	}
}

func TestP12_3AtRandom(t *testing.T) {
	voices(t, 2000, func(r source, v api.Voice, p voice.Place, from, to int) {
		onsets := onsetsOf(v, p.Length)
		for _, tick := range []int{from, to, r.Intn(p.Length)} {
			want, e := 0, api.ErrRange
			if tick >= 0 && tick < p.Length {
				e = api.OK
				for onsets[want+1] <= tick {
					want++
				}
			}
			index, onset, f := voice.At(v, p.Length, tick)
			heads := voice.Sounding(v, p.Length, tick)
			if index != want || onset != onsets[want] || f != e || e == api.OK && !slices.Equal(heads, v.Events[want].Heads) || e != api.OK && len(heads) > 0 {
				t.Fatalf("At(%v, %d) = %d, %d, error %d; want %d, error %d", v, tick, index, onset, f, want, e)
			}
			for i := range heads {
				heads[i] = api.Head{Show: 77}
			}
		}
	})
}

func TestP12_10Clone(t *testing.T) {
	voices(t, 1000, func(r source, v api.Voice, p voice.Place, from, to int) {
		c := voice.Clone(v)
		if !equal(c, v) || !voice.Equal(c, v) || !voice.Equal(v, c) {
			t.Fatalf("Clone(%v) = %v", v, c)
		}
		if spoil(c); voice.Equal(c, v) {
			t.Fatalf("a changed copy is equal to %v", v)
		}
	})
}

func TestP12_10Equal(t *testing.T) {
	full := func() api.Voice {
		v := read("7=C4+E4:4~!? 8=r:8 (3:2 G4:8 A4:8 B4:8 )")
		v.Events[0].Graces = []api.Grace{{Pitch: api.Pitch{Octave: 4}, Log: 3}}
		v.Events[0].Lyrics = []api.Syllable{{Text: "la"}}
		return v
	}
	if !voice.Equal(full(), full()) {
		t.Error("equal voices are not equal")
	}
	for i, change := range []func(v *api.Voice){
		func(v *api.Voice) { v.Events = v.Events[:4] }, func(v *api.Voice) { v.Events = append(v.Events, api.Event{}) }, func(v *api.Voice) { v.Events[0], v.Events[1] = v.Events[1], v.Events[0] },
		func(v *api.Voice) { v.Events[1].ID.Number++ }, func(v *api.Voice) { v.Events[1].Kind++ }, func(v *api.Voice) { v.Events[1].Value.Dots++ }, func(v *api.Voice) { v.Events[0].Heads[1].Tied = false }, func(v *api.Voice) { v.Events[0].Heads[1].Show = 0 }, func(v *api.Voice) { v.Events[0].Heads = v.Events[0].Heads[:1] },
		func(v *api.Voice) { v.Events[0].Graces[0].Slash = true }, func(v *api.Voice) { v.Events[0].Lyrics = nil }, func(v *api.Voice) { v.Events[0].Articulations = 0 }, func(v *api.Voice) { v.Events[0].Ornament = 1 }, func(v *api.Voice) { v.Events[1].Dynamic = 1 }, func(v *api.Voice) { v.Events[2].Stem = 1 }, func(v *api.Voice) { v.Events[4].Beam = 1 },
		func(v *api.Voice) { v.Tuplets = nil }, func(v *api.Voice) { v.Tuplets[0].First-- }, func(v *api.Voice) { v.Tuplets[0].Count-- }, func(v *api.Voice) { v.Tuplets[0].Actual-- }, func(v *api.Voice) { v.Tuplets[0].Normal-- }, func(v *api.Voice) { v.Tuplets = append(v.Tuplets, v.Tuplets[0]) },
	} {
		v := full()
		change(&v)
		if voice.Equal(v, full()) || voice.Equal(full(), v) {
			t.Errorf("%d: %v is equal to the voice before", i, v)
		}
	}
	empty := api.Voice{Events: []api.Event{}, Tuplets: []api.Tuplet{}}
	one := api.Voice{Events: []api.Event{{Heads: []api.Head{}, Graces: []api.Grace{}, Lyrics: []api.Syllable{}}}}
	if !voice.Equal(empty, api.Voice{}) || !voice.Equal(one, api.Voice{Events: []api.Event{{}}}) {
		t.Error("empty lists are not equal to those that are nil")
	}
}

// sounds returns the pitches that sound, in steps of a quarter of Finest.
func sounds(v api.Voice, length int) [][]api.Pitch {
	onsets := onsetsOf(v, length)
	var out [][]api.Pitch
	for tick, i := 0, 0; tick < length; tick += finest / 4 {
		for onsets[i+1] <= tick {
			i++
		}
		out = append(out, pitches(v.Events[i].Heads))
	}
	return out
}

// keepsValid reports an error if a voice that a function returned is not valid.
func keepsValid(t *testing.T, name string, v api.Voice, length int) {
	t.Helper()
	if _, _, e := lengthsOf(v, length); e != api.OK {
		t.Fatalf("%s leads to %v, which is not valid: error %d", name, v, e)
	}
}

// TestP12_11Consequences tests that what sounds is not changed by dividing and simplifying, and that what was cut can be put back.
func TestP12_11Consequences(t *testing.T) {
	back := 0
	voices(t, 1500, func(r source, v api.Voice, p voice.Place, from, to int) {
		before := sounds(v, p.Length)
		if d, e := voice.Divide(v, p, from); e == api.OK {
			keepsValid(t, "Divide", d, p.Length)
			if !reflect.DeepEqual(sounds(d, p.Length), before) {
				t.Fatalf("dividing %v changes what sounds: %v", v, d)
			}
		}
		simple, e := voice.Simplify(v, p)
		if keepsValid(t, "Simplify", simple, p.Length); e != api.OK || !reflect.DeepEqual(sounds(simple, p.Length), before) {
			t.Fatalf("simplifying %v changes what sounds: %v, error %d", v, simple, e)
		}
		if again, _ := voice.Simplify(simple, p); !voice.Equal(again, simple) {
			t.Fatalf("simplifying %v again yields %v", simple, again)
		}
		part, e := voice.Cut(v, p, from, to)
		if e != api.OK || from == to || v.Events[0].Kind == api.MeasureRest || !joins(v) {
			return
		}
		first, _ := voice.Divide(v, p, from)
		divided, _ := voice.Divide(first, p, to)
		if put, e := voice.Put(v, p, from, to, part); e != api.OK || !voice.Equal(put, divided) {
			t.Fatalf("%v with %v is %v, error %d; want %v", v, part, put, e, divided)
		}
		back++
	})
	if back < 300 {
		t.Errorf("only %d parts were put back", back)
	}
}

// joins reports whether all ties within a voice find their pitches.
func joins(v api.Voice) bool {
	for i := 1; i < len(v.Events); i++ {
		if !event.Joins(v.Events[i-1], v.Events[i]) {
			return false
		}
	}
	return true
}
