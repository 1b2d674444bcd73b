package voice_test

import (
	"math"
	"slices"
	"testing"

	"hemiola/api"
	"hemiola/tuplet"
	"hemiola/voice"
)

func TestP12_7Put(t *testing.T) {
	triplets := "(3:2 1=C4:8 2=C4:8 3=C4:8 ) 4=D4:2 (3:2 5=C4:8 6=C4:8 7=C4:8 )"
	for i, c := range []struct {
		text     string
		from, to int
		x, want  string
		e        api.Errno
	}{
		{"7=R", 0, whole, "8=C4:1~", "8=C4:1~", api.OK}, {"7=R!", 0, quarter, "8=C4:4", "8=C4:4 r:4 r:2", api.OK}, {"7=C5:1", quarter, half, "8=r:4", "7=C5:4 8=r:4 C5:2", api.OK}, {"7=C5:1", quarter, half, "8=C5:4", "7=C5:4~ 8=C5:4 C5:2", api.OK}, {"7=C5:1", quarter, half, "8=C5:4~!?^", "7=C5:4~ 8=C5:4~!?^ C5:2", api.OK}, {"7=C5:1", quarter, half, "8=D5:4~", "7=C5:4 8=D5:4 C5:2", api.OK}, {"7=C5:1", quarter, half, "8=B#4:4~", "7=C5:4 8=B#4:4 C5:2", api.OK}, {"7=C5:1", half, whole, "D5:4~ E5:4~", "7=C5:2 D5:4~ E5:4~", api.OK},
		// Only the ties of the event before and of the last new one are looked at.
		{"1=C4:4~ 2=D4:4~ 3=E4:4~ 4=F4:4~", half, 3 * quarter, "C4:8~ G4:8~", "1=C4:4~ 2=D4:4 C4:8~ G4:8 4=F4:4~", api.OK}, {"1=C4:4~ 2=D4:4~ 3=E4:4~ 4=F4:4~", 0, quarter, "D4:4~", "D4:4~ 2=D4:4~ 3=E4:4~ 4=F4:4~", api.OK}, {"1=C4:4~ 2=r:4 3=E4:4~ 4=F4:4~", 0, quarter, "D4:4~", "D4:4 2=r:4 3=E4:4~ 4=F4:4~", api.OK}, {"1=C4:4~ 2=r:4 3=E4:4~ 4=F4:4~", 3 * quarter, whole, "s:4!", "1=C4:4~ 2=r:4 3=E4:4 s:4!", api.ErrFormat},
		{"1=C4:4~ 2=r:4 3=E4:4~ 4=F4:4~", 3 * quarter, whole, "s:4", "1=C4:4~ 2=r:4 3=E4:4 s:4", api.OK},
		{triplets, quarter, 3 * quarter, "8=E4:2", "(3:2 1=C4:8 2=C4:8 3=C4:8 ) 8=E4:2 (3:2 5=C4:8 6=C4:8 7=C4:8 )", api.OK}, {triplets, quarter, 3 * quarter, "8=E4:4 (5:4 E4:16 E4:16 E4:16 E4:16 E4:16 )", "(3:2 1=C4:8 2=C4:8 3=C4:8 ) 8=E4:4 (5:4 E4:16 E4:16 E4:16 E4:16 E4:16 ) (3:2 5=C4:8 6=C4:8 7=C4:8 )", api.OK}, {triplets, 0, quarter, "8=E4:4", "8=E4:4 4=D4:2 (3:2 5=C4:8 6=C4:8 7=C4:8 )", api.OK}, {triplets, 3 * quarter, whole, "8=E4:4", "(3:2 1=C4:8 2=C4:8 3=C4:8 ) 4=D4:2 8=E4:4", api.OK}, {triplets, quarter + eighth, half, "8=E4:8", "(3:2 1=C4:8 2=C4:8 3=C4:8 ) 4=D4:8 8=E4:8 D4:4 (3:2 5=C4:8 6=C4:8 7=C4:8 )", api.OK}, {triplets, 0, whole, "(3:2 C4:4 (3:2 C4:16 C4:16 C4:16 ) ) r:2.", "(3:2 C4:4 (3:2 C4:16 C4:16 C4:16 ) ) r:2.", api.OK},
		{triplets, quarter, quarter, "", triplets, api.OK}, {triplets, 161280, 161280, "", triplets, api.OK}, {triplets, 0, 0, "", triplets, api.OK}, {triplets, whole, whole, "", triplets, api.OK}, {"7=C5:1", quarter, quarter, "", "7=C5:1", api.OK}, {"7=R", quarter, quarter, "", "7=R", api.OK},
		{triplets, quarter, quarter, "r:4", "", api.ErrLength}, {triplets, quarter, quarter, "R", "", api.ErrKind}, {triplets, quarter, half, "", "", api.ErrLength}, {triplets, quarter, half, "r:8", "", api.ErrLength}, {triplets, quarter, half, "r:4 r:256", "", api.ErrLength}, {triplets, quarter, half, "(3:2 r:4 r:4 r:4 )", "", api.ErrLength}, {triplets, quarter, half, "R", "", api.ErrKind}, {triplets, 0, whole, "R", "", api.ErrKind}, {triplets, quarter, half, "r:8 R", "", api.ErrKind}, {triplets, quarter, half, "R r:8", "", api.ErrKind}, {triplets, quarter, half, "(3:2 R )", "", api.ErrKind},
		{triplets, quarter, half, "(3:2 r:8. r:8. r:8. )", "", api.ErrTuplet}, {triplets, quarter, half, "(32:31 r:256 )", "", api.ErrTick}, {triplets, quarter, half, "(3:2 (3:2 (3:2 (3:2 r:4 ) ) ) )", "", api.ErrTuplet}, {triplets, quarter, half, "(3:3 r:4 )", "", api.ErrRange},
		{triplets, 1, 1, "", "", api.ErrFit}, {triplets, 161280, half, "r:4", "", api.ErrFit}, {triplets, quarter + 1, half, "", "", api.ErrTick}, {triplets, quarter + 1, quarter + 1, "", "", api.ErrTick}, {triplets, half, whole - 1, "R", "", api.ErrFit},
		{triplets, -1, 0, "R", "", api.ErrRange}, {triplets, quarter, 0, "R", "", api.ErrRange}, {triplets, 0, whole + 1, "R", "", api.ErrRange}, {triplets, math.MinInt, math.MaxInt, "", "", api.ErrRange}, {"", 0, whole, "r:1", "", api.ErrState}, {"", 5, 3, "R", "", api.ErrState},
	} {
		want := read(c.want)
		if c.e != api.OK {
			want = api.Voice{}
		}
		if got, e := voice.Put(read(c.text), in("4/4"), c.from, c.to, read(c.x)); !same(got, e, want, c.e) {
			t.Errorf("%d: Put(%s, %d, %d, %s) = %v, error %d; want %s, error %d", i, c.text, c.from, c.to, c.x, got, e, c.want, c.e)
		}
	}
}

// TestP12_7Heads tests that each head is looked at alone.
func TestP12_7Heads(t *testing.T) {
	v, x := read("1=C4+E4:2~ 2=G4:2"), read("3=C4+F4+G4:4~ 4=E4+G4:4~")
	got, e := voice.Put(v, in("4/4"), quarter, half, read("3=C4+F4+G4:4~"))
	want := read("1=C4+E4:4~ 3=C4+F4+G4:4~ 2=G4:2")
	want.Events[0].Heads[1].Tied, want.Events[1].Heads[0].Tied, want.Events[1].Heads[1].Tied = false, false, false
	if e != api.OK || !equal(got, want) {
		t.Errorf("Put of a chord = %v, error %d; want %v", got, e, want)
	}
	// Ties within the new events stay, right or wrong, and so do those at the end of the measure.
	got, e = voice.Put(v, in("4/4"), half, whole, x)
	want = read("1=C4+E4:2~ 3=C4+F4+G4:4~ 4=E4+G4:4~")
	want.Events[0].Heads[1].Tied = false
	if e != api.OK || !equal(got, want) {
		t.Errorf("Put of two chords = %v, error %d; want %v", got, e, want)
	}
}

func TestP12_7Limits(t *testing.T) {
	p := in("4/4")
	p.Length = 8 * whole
	full := many(128, "r:16")
	triplets := func(count int) api.Voice {
		var v api.Voice
		for i := range count {
			v.Events = append(v.Events, read("r:8 r:8 r:8").Events...)
			v.Tuplets = append(v.Tuplets, api.Tuplet{First: 3 * i, Count: 3, Actual: 3, Normal: 2})
		}
		return v
	}
	half16 := api.Voice{Events: slices.Concat(triplets(15).Events, many(17, "r:4").Events), Tuplets: triplets(15).Tuplets}
	deep := api.Voice{Events: many(7, "r:1").Events, Tuplets: slices.Repeat([]api.Tuplet{{Count: 1, Actual: 3, Normal: 2}}, 4)}
	for i, c := range []struct {
		v        api.Voice
		from, to int
		x        api.Voice
		events   int
		e        api.Errno
	}{
		{full, 0, eighth, read("r:32 r:32 r:16"), 0, api.ErrLimit}, {full, 0, eighth, read("r:8"), 127, api.OK}, {full, 0, eighth, read("r:16 r:16"), 128, api.OK}, {full, 0, eighth, many(128, "r:16"), 0, api.ErrLength}, {full, 0, eighth, many(129, "r:16"), 0, api.ErrLimit}, {full, 0, 0, many(129, "R"), 0, api.ErrLimit}, {full, 0, 8 * whole, many(129, "r:b"), 0, api.ErrLimit}, {full, 0, sixteenth / 2, read("r:32"), 0, api.ErrLimit}, {full, 0, 0, api.Voice{}, 128, api.OK}, {full, sixteenth / 2, sixteenth / 2, api.Voice{}, 0, api.ErrLimit},
		{half16, 7 * whole, 7*whole + quarter, triplets(1), 64, api.OK}, {half16, 7 * whole, 7*whole + half, triplets(2), 0, api.ErrLimit}, {half16, 0, half, triplets(2), 62, api.OK}, {half16, 0, half, triplets(3), 0, api.ErrLength}, {half16, 0, quarter, with(triplets(1), make([]api.Tuplet, 17)...), 0, api.ErrLimit}, {half16, 0, half, deep, 0, api.ErrTuplet}, {half16, 0, 0, with(api.Voice{}, triplets(1).Tuplets...), 0, api.ErrRange},
	} {
		got, e := voice.Put(c.v, p, c.from, c.to, c.x)
		if e != c.e || len(got.Events) != c.events || e == api.OK && voice.Check(got, p.Length) != api.OK {
			t.Errorf("%d: Put = %d events, error %d; want %d, error %d", i, len(got.Events), e, c.events, c.e)
		}
	}
}

func TestP12_7Errors(t *testing.T) {
	for i, c := range placeCases() {
		for _, to := range []int{whole, -1} {
			if got, e := voice.Put(c.v, c.p, 0, to, read("R")); !same(got, e, api.Voice{}, c.e) {
				t.Errorf("%d: Put = %v, error %d; want error %d", i, got, e, c.e)
			}
		}
	}
	for i, c := range wrong() {
		if len(c.v.Events) == 1 && c.v.Events[0].Kind == api.MeasureRest && c.e == api.ErrTuplet {
			c.e = api.ErrKind
		}
		if got, e := voice.Put(read("r:1"), in("4/4"), 0, whole, c.v); !same(got, e, api.Voice{}, c.e) {
			t.Errorf("%d: Put of %v = %v, error %d; want error %d", i, c.v, got, e, c.e)
		}
	}
}

func TestP12_7AtRandom(t *testing.T) {
	found := map[api.Errno]int{}
	changed := 0
	voices(t, 12000, func(r source, v api.Voice, p voice.Place, from, to int) {
		length := quarter
		if r.Intn(8) > 0 && 0 < to-from && to-from <= 8*whole {
			length = to - from
		}
		x := r.words(length)
		if r.Intn(20) == 0 {
			x = read("R")
		}
		if r.Intn(12) == 0 && len(x.Events) > 0 {
			x.Events[r.Intn(len(x.Events))].Kind = r.Intn(5)
		}
		if r.Intn(12) == 0 {
			x.Tuplets = tuplet.Canonical(append(x.Tuplets, api.Tuplet{First: r.Intn(4), Count: r.Intn(4), Actual: pick(r, 3, 11), Normal: 2}))
		}
		kept := copied(x)
		want, f := putOf(v, p, from, to, x)
		got, e := voice.Put(v, p, from, to, x)
		if !same(got, e, want, f) {
			t.Fatalf("Put(%v, %v, %d, %d, %v) = %v, error %d; want %v, error %d", v, p, from, to, x, got, e, want, f)
		}
		found[e]++
		if e == api.OK {
			keepsValid(t, "Put", got, p.Length)
			if from < to {
				changed++
			}
		}
		if spoil(got); !equal(x, kept) {
			t.Fatalf("Put retains or changes the new events %v", kept)
		}
	})
	for _, e := range []api.Errno{api.OK, api.ErrRange, api.ErrFit, api.ErrTick, api.ErrLength, api.ErrKind, api.ErrTuplet, api.ErrShort, api.ErrFormat} {
		if found[e] < 10 {
			t.Errorf("the error %d was tested only %d times", e, found[e])
		}
	}
	if changed < 1000 {
		t.Errorf("only %d voices were changed", changed)
	}
}

func TestP12_8Erase(t *testing.T) {
	odd := in("4/4")
	odd.Offset = 5
	late := in("3/4")
	late.Offset, late.Length = 2*quarter, quarter
	uneven := in("4/4")
	uneven.Length = whole + 3*finest
	for i, c := range []struct {
		text     string
		p        voice.Place
		from, to int
		want     string
		e        api.Errno
	}{
		{"7=R", in("3/4"), 0, quarter, "r:4 r:2", api.OK}, {"7=R!", in("3/4"), 0, 3 * quarter, "R", api.OK}, {"7=R!", in("3/4"), quarter, 2 * quarter, "7=r:4! r:4 r:4", api.OK}, {"7=R", in("3/4"), quarter, quarter, "7=R", api.OK},
		{"7=C5:1~", in("4/4"), quarter, whole, "7=C5:4 r:4 r:2", api.OK}, {"7=C5:1~", in("4/4"), 0, quarter, "r:4 C5:4~ C5:2~", api.OK}, {"1=C4:4~ 2=C4:4~ 3=C4:4~ 4=C4:4~", in("4/4"), quarter, 3 * quarter, "1=C4:4 r:4 r:4 4=C4:4~", api.OK}, {"1=C4:4~ 2=C4:4~ 3=C4:4~ 4=C4:4~", in("4/4"), 0, whole, "R", api.OK}, {"7=C4:4", late, 0, eighth, "r:8 C4:8", api.OK}, {"7=C4:4", late, 0, quarter, "R", api.OK},
		{"(3:2 1=C4:8 2=C4:8 3=C4:8 ) 4=D4:2.", in("4/4"), 0, quarter, "r:4 4=D4:2.", api.OK}, {"4=D4:2. (3:2 1=C4:8 2=C4:8 3=C4:8 )", in("4/4"), half, whole, "4=D4:2 r:2", api.OK}, {"(3:2 1=C4:8 2=C4:8 3=C4:8 ) 4=D4:2.", in("4/4"), 0, whole, "R", api.OK}, {"(3:2 1=C4:8 2=C4:8 3=C4:8 ) 4=D4:2.", in("4/4"), 161280, quarter, "", api.ErrFit}, {"(3:2 1=C4:8 2=C4:8 3=C4:8 ) 4=D4:2.", in("4/4"), quarter + 1, half, "", api.ErrTick},
		{"7=C5:1", odd, 0, whole, "R", api.OK}, {"1=C5:2 2=C5:2", odd, 0, half, "", api.ErrTick}, {"1=C5:2 2=C5:2", odd, half, half, "", api.ErrTick}, {"1=C5:2 2=C5:2", in("4/4"), half, half, "1=C5:2 2=C5:2", api.OK},
		// The events begin and end where they may not be divided, and where no rest can be written.
		{"1=C4:256. 2=C4:256. 3=r:1", uneven, 0, 3 * finest / 2, "", api.ErrTick}, {"1=C4:256. 2=C4:256. 3=r:1", uneven, 3 * finest / 2, 3 * finest, "", api.ErrTick}, {"1=C4:256. 2=C4:256. 3=r:1", uneven, 3 * finest / 2, 3 * finest / 2, "", api.ErrTick}, {"1=C4:256. 2=C4:256. 3=r:1", uneven, 0, 3 * finest, "r:128. 3=r:1", api.OK}, {"1=C4:256. 2=C4:256. 3=r:1", uneven, 0, whole + 3*finest, "R", api.OK},
		{"7=C5:1", in("4/4"), -1, whole, "", api.ErrRange}, {"7=C5:1", in("4/4"), half, 0, "", api.ErrRange}, {"7=C5:1", in("4/4"), 0, whole + 1, "", api.ErrRange}, {"7=C5:1", in("4/4"), math.MinInt, math.MaxInt, "", api.ErrRange}, {"", in("4/4"), 0, whole, "", api.ErrState}, {"", in("4/4"), 0, 0, "", api.ErrState},
	} {
		if got, e := voice.Erase(read(c.text), c.p, c.from, c.to); !same(got, e, read(c.want), c.e) {
			t.Errorf("%d: Erase(%s, %d, %d) = %v, error %d; want %s, error %d", i, c.text, c.from, c.to, got, e, c.want, c.e)
		}
	}
}

func TestP12_8Errors(t *testing.T) {
	for i, c := range placeCases() {
		for _, to := range []int{whole, quarter, -1} {
			if got, e := voice.Erase(c.v, c.p, 0, to); !same(got, e, api.Voice{}, c.e) {
				t.Errorf("%d: Erase = %v, error %d; want error %d", i, got, e, c.e)
			}
		}
	}
	p := in("4/4")
	p.Length = 8 * whole
	if got, e := voice.Erase(many(128, "r:16"), p, whole, 2*whole); e != api.OK || len(got.Events) != 113 {
		t.Errorf("Erase of a measure of a full voice: %d events, error %d", len(got.Events), e)
	}
	// Two rests must be written where one note was.
	full := api.Voice{Events: slices.Concat(many(63, "C4:16").Events, read("C4:16. C4:32").Events, many(63, "C4:16").Events)}
	p.Offset = sixteenth / 4
	if got, e := voice.Erase(full, p, 63*sixteenth, 63*sixteenth+3*sixteenth/2); !same(got, e, api.Voice{}, api.ErrLimit) {
		t.Errorf("Erase that needs more events: %d events, error %d", len(got.Events), e)
	}
}

func TestP12_8AtRandom(t *testing.T) {
	found := map[api.Errno]int{}
	voices(t, 8000, func(r source, v api.Voice, p voice.Place, from, to int) {
		if r.Intn(12) == 0 {
			from, to = 0, p.Length
		}
		want, f := erasedOf(v, p, from, to)
		got, e := voice.Erase(v, p, from, to)
		if !same(got, e, want, f) {
			t.Fatalf("Erase(%v, %v, %d, %d) = %v, error %d; want %v, error %d", v, p, from, to, got, e, want, f)
		}
		found[e]++
		if e == api.OK {
			keepsValid(t, "Erase", got, p.Length)
		}
		spoil(got)
	})
	for _, e := range []api.Errno{api.OK, api.ErrRange, api.ErrFit, api.ErrTick} {
		if found[e] < 50 {
			t.Errorf("the error %d was tested only %d times", e, found[e])
		}
	}
}
