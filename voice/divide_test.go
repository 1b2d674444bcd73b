package voice_test

import (
	"math"
	"testing"

	"hemiola/api"
	"hemiola/voice"
)

// placeCase is a place or a voice that is not as required, with its error.
type placeCase struct {
	v api.Voice
	p voice.Place
	e api.Errno
}

// placeCases returns the errors that come before those of the ticks, of several the first one.
func placeCases() []placeCase {
	four := in("4/4").Metre
	rest := read("r:1")
	l := []placeCase{
		{rest, voice.Place{Metre: badMetre, Offset: -1, Length: -1}, api.ErrValue}, {rest, voice.Place{Length: whole}, api.ErrRange}, {rest, voice.Place{Metre: api.Metre{Count: 4, Unit: 4, Groups: [6]int{3, 2}}, Offset: -1, Length: whole}, api.ErrMetre},
		{rest, voice.Place{Metre: four, Offset: -1, Length: whole}, api.ErrRange}, {rest, voice.Place{Metre: four, Offset: 8*whole + 1, Length: whole}, api.ErrRange}, {rest, voice.Place{Metre: four, Offset: math.MinInt, Length: whole}, api.ErrRange}, {rest, voice.Place{Metre: four, Offset: math.MaxInt, Length: whole}, api.ErrRange},
		{rest, voice.Place{Metre: four, Length: 0}, api.ErrRange}, {rest, voice.Place{Metre: four, Length: -1}, api.ErrRange}, {rest, voice.Place{Metre: four, Length: 8*whole + 1}, api.ErrRange}, {rest, voice.Place{Metre: four, Length: whole - 1}, api.ErrLength}, {many(129, "r:256"), voice.Place{Metre: four, Offset: -1, Length: whole}, api.ErrRange},
	}
	for _, c := range wrong() {
		l = append(l, placeCase{c.v, in("4/4"), c.e})
	}
	return l
}

// same reports whether two results are the same; with an error, the voice must be zero.
func same(a api.Voice, e api.Errno, b api.Voice, f api.Errno) bool {
	return e == f && equal(a, b) && (e == api.OK || equal(a, api.Voice{}))
}

func TestP12_5Divide(t *testing.T) {
	late := in("3/4")
	late.Offset, late.Length = 2*quarter, quarter
	odd := in("4/4")
	odd.Offset = 1
	long := in("4/4")
	long.Length = 8 * whole
	for i, c := range []struct {
		text string
		p    voice.Place
		tick int
		want string
		e    api.Errno
	}{
		{"7=C5:1", in("4/4"), quarter, "7=C5:4~ C5:4~ C5:2", api.OK}, {"7=C5:1~!?^", in("4/4"), quarter, "7=C5:4~!?^ C5:4~^ C5:2~^", api.OK}, {"7=C5+E5:1", in("4/4"), half, "7=C5+E5:2~ C5+E5:2", api.OK}, {"7=C5:1", in("4/4"), eighth, "7=C5:8~ C5:8~ C5:4~ C5:2", api.OK},
		{"7=C5:1", in("4/4"), 0, "7=C5:1", api.OK}, {"7=C5:1", in("4/4"), whole, "7=C5:1", api.OK}, {"7=C5:2~ 8=C5:2?", in("4/4"), half, "7=C5:2~ 8=C5:2?", api.OK},
		{"R", in("3/4"), quarter, "r:4 r:2", api.OK}, {"7=R!", in("4/4"), quarter, "7=r:4! r:4 r:2", api.OK}, {"7=R", in("3/4"), 0, "7=R", api.OK}, {"7=R", in("3/4"), 3 * quarter, "7=R", api.OK}, {"7=s:1", in("4/4"), half, "7=s:2 s:2", api.OK}, {"1=r:2! 2=r:2!", in("4/4"), 3 * quarter, "1=r:2! 2=r:4! r:4", api.OK},
		{"(3:2 C4:8 C4:8 C4:8 ) D4:2 (3:2 C4:8 C4:8 C4:8 )", in("4/4"), 2 * quarter, "(3:2 C4:8 C4:8 C4:8 ) D4:4~ D4:4 (3:2 C4:8 C4:8 C4:8 )", api.OK}, {"(3:2 C4:8 C4:8 C4:8 ) D4:2.", in("4/4"), 161280, "(3:2 C4:8 C4:8 C4:8 ) D4:2.", api.OK},
		{"C4:4", late, eighth, "C4:8~ C4:8", api.OK}, {"7=C4:4.. 8=C4:16 9=r:2", in("4/4"), 3 * eighth, "7=C4:4.~ C4:16 8=C4:16 9=r:2", api.OK},
		// In 6/8 the parts are written in another way than in 3/4.
		{"C4:2.", in("3/4"), half, "C4:2~ C4:4", api.OK}, {"C4:2.", in("6/8"), half, "C4:4.~ C4:8~ C4:4", api.OK},
		{"(3:2 C4:4 C4:8 ) D4:2.", in("4/4"), eighth, "", api.ErrFit}, {"(3:2 C4:4 C4:8 ) D4:2.", in("4/4"), 1, "", api.ErrFit}, {"(3:2 C4:4 C4:8 ) D4:2.", odd, 1, "", api.ErrFit}, {"C4:1", in("4/4"), 1, "", api.ErrTick}, {"C4:1", in("4/4"), whole - 1, "", api.ErrTick}, {"C4:1", odd, finest, "", api.ErrTick}, {"C4:1", odd, finest - 1, "", api.ErrTick}, {"C4:1", odd, 0, "C4:1", api.OK},
		// The first event does not begin, or does not end, at a multiple of Finest.
		{"C4:256. D4:256. r:1 r:4", voice.Place{Metre: odd.Metre, Length: 3*finest + whole + quarter}, finest, "", api.ErrTick}, {"C4:256. D4:256. r:1 r:4", voice.Place{Metre: odd.Metre, Length: 3*finest + whole + quarter}, 2 * finest, "", api.ErrTick}, {"C4:256. D4:256. r:1 r:4", voice.Place{Metre: odd.Metre, Length: 3*finest + whole + quarter}, finest * 3 / 2, "C4:256. D4:256. r:1 r:4", api.OK},
		{"C4:1", in("4/4"), -1, "", api.ErrRange}, {"C4:1", in("4/4"), whole + 1, "", api.ErrRange}, {"C4:1", in("4/4"), math.MinInt, "", api.ErrRange}, {"C4:1", in("4/4"), math.MaxInt, "", api.ErrRange}, {"", in("4/4"), 0, "", api.ErrState}, {"", in("4/4"), -1, "", api.ErrState}, {"", in("4/4"), whole, "", api.ErrState},
	} {
		v := read(c.text)
		if got, e := voice.Divide(v, c.p, c.tick); !same(got, e, read(c.want), c.e) {
			t.Errorf("%d: Divide(%s, %d) = %v, error %d; want %s, error %d", i, c.text, c.tick, got, e, c.want, c.e)
		}
	}
}

func TestP12_5Limits(t *testing.T) {
	p := in("4/4")
	p.Length = 8 * whole
	full := many(128, "r:16")
	if got, e := voice.Divide(full, p, sixteenth); e != api.OK || !equal(got, full) {
		t.Errorf("Divide at an onset of a full voice: error %d", e)
	}
	if got, e := voice.Divide(full, p, sixteenth/2); !same(got, e, api.Voice{}, api.ErrLimit) {
		t.Errorf("Divide of a full voice: error %d", e)
	}
	if got, e := voice.Divide(full, p, 1); !same(got, e, api.Voice{}, api.ErrTick) {
		t.Errorf("Divide of a full voice at the tick 1: error %d", e)
	}
	almost := api.Voice{Events: append(many(126, "r:16").Events, read("r:8").Events...)}
	if got, e := voice.Divide(almost, p, 8*whole-sixteenth); e != api.OK || !equal(got, full) {
		t.Errorf("Divide of a voice with 127 events: %d events, error %d", len(got.Events), e)
	}
	// The place reaches from 0 to MaxLength, and 8 whole notes from there on.
	p.Offset = 8 * whole
	if got, e := voice.Divide(read("r:b r:b r:b r:b"), p, 7*whole); e != api.OK || !equal(got, read("r:b r:b r:b r:1 r:1")) {
		t.Errorf("Divide of a long measure: %v, error %d", got, e)
	}
}

func TestP12_5Errors(t *testing.T) {
	for i, c := range placeCases() {
		for _, tick := range []int{0, -1} {
			if got, e := voice.Divide(c.v, c.p, tick); !same(got, e, api.Voice{}, c.e) {
				t.Errorf("%d: Divide = %v, error %d; want error %d", i, got, e, c.e)
			}
		}
	}
}

func TestP12_5AtRandom(t *testing.T) {
	found := map[api.Errno]int{}
	voices(t, 6000, func(r source, v api.Voice, p voice.Place, tick, _ int) {
		want, f := dividedOf(v, p, tick)
		got, e := voice.Divide(v, p, tick)
		if !same(got, e, want, f) {
			t.Fatalf("Divide(%v, %v, %d) = %v, error %d; want %v, error %d", v, p, tick, got, e, want, f)
		}
		found[e]++
		if len(want.Events) != len(v.Events) {
			found[-e]++
		}
		spoil(got)
	})
	for _, e := range []api.Errno{api.OK, api.ErrRange, api.ErrFit, api.ErrTick} {
		if found[e] < 50 {
			t.Errorf("the error %d was tested only %d times", e, found[e])
		}
	}
}

func TestP12_6Cut(t *testing.T) {
	triplets := "1=C4:4 (3:2 2=C4:8 3=C4:8 4=C4:8 ) 5=D4:4 (3:2 6=C4:4 (3:2 7=C4:16 8=C4:16 9=C4:16 ) )"
	for i, c := range []struct {
		text     string
		from, to int
		want     string
		e        api.Errno
	}{
		{"7=C5:1", quarter, half, "C5:4~", api.OK}, {"7=C5:1", 0, quarter, "7=C5:4~", api.OK}, {"7=C5:1", quarter, whole, "C5:4~ C5:2", api.OK}, {"7=C5:1", 0, whole, "7=C5:1", api.OK}, {"7=C5:1!?", quarter, quarter, "", api.OK}, {"7=C5:1", 0, 0, "", api.OK}, {"7=C5:1", whole, whole, "", api.OK},
		{"7=R!", 0, whole, "7=R!", api.OK}, {"7=R!", 0, half, "7=r:2!", api.OK}, {"7=R!", half, whole, "r:2", api.OK}, {"7=R", half, half, "", api.OK},
		{triplets, 0, whole, triplets, api.OK}, {triplets, quarter, half, "(3:2 2=C4:8 3=C4:8 4=C4:8 )", api.OK}, {triplets, 3 * quarter, whole, "(3:2 6=C4:4 (3:2 7=C4:16 8=C4:16 9=C4:16 ) )", api.OK}, {triplets, half, 3 * quarter, "5=D4:4", api.OK}, {triplets, half + eighth, whole, "D4:8 (3:2 6=C4:4 (3:2 7=C4:16 8=C4:16 9=C4:16 ) )", api.OK}, {triplets, 0, eighth, "1=C4:8~", api.OK},
		{triplets, 0, quarter + 161280, "", api.ErrFit}, {triplets, quarter + 161280, half, "", api.ErrFit}, {triplets, quarter + 161280, quarter + 161280, "", api.OK}, {triplets, quarter, quarter + 1, "", api.ErrFit}, {triplets, quarter + 1, quarter + 1, "", api.ErrFit}, {triplets, 3*quarter + 322560, whole, "", api.ErrFit}, {triplets, 3*quarter + 322560, 3*quarter + 322560, "", api.OK},
		{triplets, 1, 1, "", api.ErrTick}, {triplets, 1, quarter + 1, "", api.ErrTick}, {triplets, 0, 1, "", api.ErrTick}, {triplets, quarter + 1, half + 1, "", api.ErrFit}, {triplets, quarter + 161280, half + 1, "", api.ErrTick},
		{triplets, -1, quarter, "", api.ErrRange}, {triplets, half, quarter, "", api.ErrRange}, {triplets, quarter, whole + 1, "", api.ErrRange}, {triplets, whole + 1, whole + 1, "", api.ErrRange}, {triplets, math.MinInt, math.MaxInt, "", api.ErrRange}, {triplets, math.MaxInt, math.MaxInt, "", api.ErrRange}, {triplets, 1, 0, "", api.ErrRange},
		{"", 0, whole, "", api.ErrState}, {"", 5, 3, "", api.ErrState},
	} {
		if got, e := voice.Cut(read(c.text), in("4/4"), c.from, c.to); !same(got, e, read(c.want), c.e) {
			t.Errorf("%d: Cut(%s, %d, %d) = %v, error %d; want %s, error %d", i, c.text, c.from, c.to, got, e, c.want, c.e)
		}
	}
}

func TestP12_6Errors(t *testing.T) {
	for i, c := range placeCases() {
		for _, to := range []int{whole, -1} {
			if got, e := voice.Cut(c.v, c.p, 0, to); !same(got, e, api.Voice{}, c.e) {
				t.Errorf("%d: Cut = %v, error %d; want error %d", i, got, e, c.e)
			}
		}
	}
	// The voice would have too many events after it was divided, though the part has few.
	p := in("4/4")
	p.Length = 8 * whole
	for _, ticks := range [][2]int{{sixteenth / 2, sixteenth}, {0, sixteenth / 2}, {sixteenth / 2, sixteenth / 2}} {
		if got, e := voice.Cut(many(128, "r:16"), p, ticks[0], ticks[1]); !same(got, e, api.Voice{}, api.ErrLimit) {
			t.Errorf("Cut of a full voice at %v = %v, error %d", ticks, got, e)
		}
	}
}

func TestP12_6AtRandom(t *testing.T) {
	found := map[api.Errno]int{}
	tuplets := 0
	voices(t, 8000, func(r source, v api.Voice, p voice.Place, from, to int) {
		want, f := cutOf(v, p, from, to)
		got, e := voice.Cut(v, p, from, to)
		if !same(got, e, want, f) {
			t.Fatalf("Cut(%v, %v, %d, %d) = %v, error %d; want %v, error %d", v, p, from, to, got, e, want, f)
		}
		found[e]++
		tuplets += len(want.Tuplets)
		spoil(got)
	})
	for _, e := range []api.Errno{api.OK, api.ErrRange, api.ErrFit, api.ErrTick} {
		if found[e] < 50 {
			t.Errorf("the error %d was tested only %d times", e, found[e])
		}
	}
	if tuplets < 500 {
		t.Errorf("only %d tuplets were cut", tuplets)
	}
}
