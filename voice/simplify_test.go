package voice_test

import (
	"testing"

	"hemiola/api"
	"hemiola/voice"
)

func TestP12_9Simplify(t *testing.T) {
	odd := in("4/4")
	odd.Offset = 1
	late := in("4/4")
	late.Offset, late.Length = quarter, 3*quarter
	uneven := in("4/4")
	uneven.Length = whole + 3*finest
	for i, c := range []struct {
		text string
		p    voice.Place
		want string
	}{
		{"", in("4/4"), ""}, {"7=R", in("4/4"), "7=R"}, {"7=C4:1", in("4/4"), "7=C4:1"},
		{"1=C5:4~ 2=C5:4~ 3=C5:2", in("4/4"), "1=C5:1"}, {"1=C5:4~ 2=C5:4~ 3=C5:2~", in("4/4"), "1=C5:1~"}, {"1=C5:4~ 2=C5:4~ 3=C5:2", odd, "1=C5:4~ 2=C5:4~ 3=C5:2"}, {"1=C5:4~!?^ 2=C5:4~^ 3=C5:2~^", in("4/4"), "1=C5:1~!?^"},
		{"1=C4:4 2=C5:4~ 3=C5:8~ 4=C5:8~ 5=C5:8~ 6=C5:8", in("4/4"), "1=C4:4 2=C5:4~ 3=C5:2"}, {"1=C4:8~ 2=C4:8~ 3=C4:8~ 4=C4:8~ 5=r:4", late, "1=C4:4~ 2=C4:4~ 5=r:4"},
		{"1=r:4 2=r:4 3=r:2", in("4/4"), "1=r:1"}, {"1=s:4 2=s:4 3=s:2", in("4/4"), "1=s:1"}, {"1=r:4 2=s:4 3=r:2", in("4/4"), "1=r:4 2=s:4 3=r:2"}, {"r:8 r:8 C4:4 s:8 s:8 r:4", in("4/4"), "r:4 C4:4 s:4 r:4"}, {"1=r:4 2=r:4! 3=r:4 4=r:4", in("4/4"), "1=r:4 2=r:4! 3=r:2"}, {"1=r:4! 2=r:4 3=r:4 4=r:4", in("4/4"), "1=r:4! 2=r:4 3=r:2"}, {"1=r:8! 2=r:8 3=r:8 4=r:8 5=r:2!", in("4/4"), "1=r:8! 2=r:8 3=r:4 5=r:2!"}, {"1=r:4 2=r:2 3=r:4", in("4/4"), "1=r:1"}, {"1=r:4 2=r:2 3=C4:4", in("4/4"), "1=r:2. 3=C4:4"}, {"1=C4:4 2=r:4 3=r:2", in("4/4"), "1=C4:4 2=r:4 3=r:2"}, {"1=r:4 2=r:4 3=r:4 4=C4:4", in("4/4"), "1=r:2. 4=C4:4"}, {"1=C4:4 2=r:4 3=r:4 4=r:4", in("4/4"), "1=C4:4 2=r:4 3=r:2"},
		// What is not plain, is not wholly tied, or has other pitches ends a run.
		{"1=C5:4 2=C5:4~ 3=C5:2", in("4/4"), "1=C5:4 2=C5:4~ 3=C5:2"}, {"1=C5:2 2=C5:2", in("4/4"), "1=C5:2 2=C5:2"}, {"1=C5:2~ 2=C5:2!", in("4/4"), "1=C5:2~ 2=C5:2!"}, {"1=C5:2~ 2=C5:2?", in("4/4"), "1=C5:2~ 2=C5:2?"}, {"1=C5:2~ 2=C5:2^", in("4/4"), "1=C5:2~ 2=C5:2^"}, {"1=C5:2~^ 2=C5:2", in("4/4"), "1=C5:2~^ 2=C5:2"}, {"1=C5:2~ 2=C5+E5:2", in("4/4"), "1=C5:2~ 2=C5+E5:2"}, {"1=C5+E5:2~ 2=C5:2", in("4/4"), "1=C5+E5:2~ 2=C5:2"}, {"1=C5:2~ 2=B#4:2", in("4/4"), "1=C5:2~ 2=B#4:2"}, {"1=C5+E5:2~ 2=C5+E5:2", in("4/4"), "1=C5+E5:1"}, {"1=C5:2~ 2=r:2", in("4/4"), "1=C5:2~ 2=r:2"},
		{"1=C5:4~ 2=C5:4~! 3=C5:4~ 4=C5:4", in("4/4"), "1=C5:4~ 2=C5:4~! 3=C5:2"}, {"1=C5:8~ 2=C5:8~ 3=C5:4~^ 4=C5:4~^ 5=C5:4^", in("4/4"), "1=C5:4~ 3=C5:4~^ 4=C5:2^"},
		{"(3:2 1=r:8 2=r:8 3=r:8 ) 4=r:8 5=r:8 6=r:2", in("4/4"), "(3:2 1=r:8 2=r:8 3=r:8 ) 4=r:4 5=r:2"}, {"1=r:8 2=r:8 (3:2 3=r:8 4=r:8 5=r:8 ) 6=r:8 7=r:8 (3:2 8=r:8 9=r:8 10=r:8 )", in("4/4"), "1=r:4 (3:2 3=r:8 4=r:8 5=r:8 ) 6=r:4 (3:2 8=r:8 9=r:8 10=r:8 )"}, {"1=r:4 (3:2 2=C4:8~ 3=C4:8~ 4=C4:8~ ) 5=C4:2", in("4/4"), "1=r:4 (3:2 2=C4:8~ 3=C4:8~ 4=C4:8~ ) 5=C4:2"},
		{"1=C4:256. 2=D4:256. 3=r:2 4=r:2", uneven, "1=C4:256. 2=D4:256. 3=r:2 4=r:2"}, {"1=r:256. 2=r:256. 3=C4:1", uneven, "1=r:128. 3=C4:1"}, {"1=C4:256. 2=r:256. 3=r:256 4=r:1", voice.Place{Metre: uneven.Metre, Length: whole + 4*finest}, "1=C4:256. 2=r:256. 3=r:256 4=r:1"}, {"1=r:256 2=r:256. 3=C4:256. 4=D4:1", voice.Place{Metre: uneven.Metre, Length: whole + 4*finest}, "1=r:256 2=r:256. 3=C4:256. 4=D4:1"}, {"r:256. r:256. 3=r:256. r:256. r:1", voice.Place{Metre: uneven.Metre, Length: whole + 6*finest}, "r:1 r:64."},
	} {
		if got, e := voice.Simplify(read(c.text), c.p); !same(got, e, read(c.want), api.OK) {
			t.Errorf("%d: Simplify(%s) = %v, error %d; want %s", i, c.text, got, e, c.want)
		}
	}
}

// TestP12_9Plain tests that no field but those of a further note may stand within a run, and that all may stand at its beginning.
func TestP12_9Plain(t *testing.T) {
	for i, change := range []func(x *api.Event){
		func(x *api.Event) { x.Graces = []api.Grace{{Pitch: api.Pitch{Octave: 5}, Log: 3}} }, func(x *api.Event) { x.Articulations = api.Staccato }, func(x *api.Event) { x.Ornament = api.Trill }, func(x *api.Event) { x.Dynamic = 3 },
		func(x *api.Event) { x.Lyrics = []api.Syllable{{Text: "la"}} }, func(x *api.Event) { x.Beam = api.BeamBreak }, func(x *api.Event) { x.Heads[0].Show = api.ShowParentheses },
	} {
		begin, within := read("1=C5:2~ 2=C5:2"), read("1=C5:2~ 2=C5:2")
		change(&begin.Events[0])
		change(&within.Events[1])
		want := api.Voice{Events: copied(begin).Events[:1]}
		want.Events[0].Value, want.Events[0].Heads[0].Tied = api.Value{}, false
		if got, e := voice.Simplify(begin, in("4/4")); e != api.OK || !equal(got, want) {
			t.Errorf("%d: Simplify(%v) = %v, error %d; want %v", i, begin, got, e, want)
		}
		if got, e := voice.Simplify(within, in("4/4")); e != api.OK || !equal(got, within) {
			t.Errorf("%d: Simplify(%v) = %v, error %d", i, within, got, e)
		}
	}
	open := read("1=C5+E5:2~ 2=C5+E5:2")
	open.Events[0].Heads[1].Tied = false
	if got, e := voice.Simplify(open, in("4/4")); e != api.OK || !equal(got, open) {
		t.Errorf("Simplify of a chord with one tied head = %v, error %d", got, e)
	}
	last := read("1=C5+E5:2~ 2=C5+E5:2")
	last.Events[1].Heads[1].Tied = true
	want := read("1=C5+E5:1")
	want.Events[0].Heads[1].Tied = true
	if got, e := voice.Simplify(last, in("4/4")); e != api.OK || !equal(got, want) {
		t.Errorf("Simplify of a chord whose last note has one tied head = %v, error %d", got, e)
	}
}

func TestP12_9Errors(t *testing.T) {
	for i, c := range placeCases() {
		if got, e := voice.Simplify(c.v, c.p); !same(got, e, api.Voice{}, c.e) {
			t.Errorf("%d: Simplify = %v, error %d; want error %d", i, got, e, c.e)
		}
	}
	p := in("4/4")
	p.Metre = badMetre
	if got, e := voice.Simplify(api.Voice{}, p); !same(got, e, api.Voice{}, api.ErrValue) {
		t.Errorf("Simplify of an absent voice in no metre = %v, error %d", got, e)
	}
}

func TestP12_9AtRandom(t *testing.T) {
	shorter := 0
	voices(t, 8000, func(r source, v api.Voice, p voice.Place, _, _ int) {
		if r.Intn(3) == 0 {
			v = copied(v)
			for i := range v.Events {
				v.Events[i].Dynamic, v.Events[i].Articulations = 0, 0
			}
		}
		want, f := simpleOf(v, p)
		got, e := voice.Simplify(v, p)
		if !same(got, e, want, f) {
			t.Fatalf("Simplify(%v, %v) = %v, error %d; want %v, error %d", v, p, got, e, want, f)
		}
		if len(want.Events) < len(v.Events) {
			shorter++
		}
		spoil(got)
	})
	if shorter < 1000 {
		t.Errorf("only %d voices became shorter", shorter)
	}
}

func TestP12_11Examples(t *testing.T) {
	divided, e := voice.Divide(read("1=C5:1"), in("4/4"), 483840)
	if e != api.OK || !equal(divided, read("1=C5:4~ C5:4~ C5:2")) {
		t.Errorf("a whole note is divided into %v, error %d", divided, e)
	}
	if v, e := voice.Simplify(divided, in("4/4")); e != api.OK || !equal(v, read("1=C5:1")) {
		t.Errorf("its parts are simplified to %v, error %d", v, e)
	}
	if v, e := voice.Erase(read("1=R"), in("3/4"), 0, quarter); e != api.OK || !equal(v, read("r:4 r:2")) {
		t.Errorf("erasing the first quarter of a measure rest leaves %v, error %d", v, e)
	}
	if v, e := voice.Erase(read("1=R"), in("3/4"), 0, 3*quarter); e != api.OK || !equal(v, read("R")) {
		t.Errorf("erasing all of a measure rest leaves %v, error %d", v, e)
	}
}
