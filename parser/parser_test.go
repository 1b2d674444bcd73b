package parser_test

import (
	"math"
	"slices"
	"strings"
	"testing"

	"hemiola/api"
	"hemiola/check"
	"hemiola/lexer"
	"hemiola/measure"
	"hemiola/parser"
	"hemiola/sample"
	"hemiola/score"
)

const duo = `score "Duo"
part "Flute" staff treble
measure metre 3/4 key 1 { (3:2 G4:8 A4:8 B4:8) <C5~ E5>:4 [accent mf] "la" r:4 }
measure { C5:2. }
`

// at returns the id with a number of the site 0.
func at(number int) api.ID { return api.ID{Number: number} }

// note returns a chord of one head with an octave.
func note(id api.ID, value api.Value, step, octave int) api.Event {
	return api.Event{ID: id, Kind: api.Chord, Value: value, Heads: []api.Head{{Pitch: api.Pitch{Step: step, Octave: octave}}}}
}

func TestP19_1Example(t *testing.T) {
	eighth, metre := api.Value{Log: 3}, api.Metre{Count: 3, Unit: 4}
	third := api.Event{ID: at(7), Kind: api.Chord, Value: api.Value{Log: 2}, Articulations: api.Accent, Dynamic: 5, Lyrics: []api.Syllable{{Text: "la"}}}
	third.Heads = []api.Head{{Pitch: api.Pitch{Octave: 5}, Tied: true}, {Pitch: api.Pitch{Step: 2, Octave: 5}}}
	want := api.Score{
		Title: "Duo",
		Parts: []api.Part{{ID: at(1), Name: "Flute", Staves: []api.Staff{{ID: at(2), Clef: 1}}}},
		Measures: []api.Measure{
			{ID: at(3), Metre: metre, Fifths: 1, Cells: []api.Cell{{Voices: []api.Voice{{
				Events:  []api.Event{note(at(4), eighth, 4, 4), note(at(5), eighth, 5, 4), note(at(6), eighth, 6, 4), third, {ID: at(8), Kind: api.Rest, Value: api.Value{Log: 2}}},
				Tuplets: []api.Tuplet{{First: 0, Count: 3, Actual: 3, Normal: 2}},
			}}}}},
			{ID: at(9), Metre: metre, Fifths: 1, Cells: []api.Cell{{Voices: []api.Voice{{Events: []api.Event{note(at(10), api.Value{Log: 1, Dots: 1}, 0, 5)}}}}}},
		},
		Last: []api.ID{at(10)},
	}
	got, line, column, e := parser.Read(duo)
	if text(got) != text(want) || line != 0 || column != 0 || e != api.OK {
		t.Errorf("Read = %+v, %d, %d, error %d; want %+v", got, line, column, e, want)
	}
	// The tie leads nowhere.
	if got, line, column, e := parser.Parse(duo); text(got) != text(api.Score{}) || line != 5 || column != 1 || e != api.ErrRule {
		t.Errorf("Parse = %+v, %d, %d, error %d", got, line, column, e)
	}
	valid := strings.Replace(duo, "~", "", 1)
	want.Measures[0].Cells[0].Voices[0].Events[3].Heads[0].Tied = false
	if got, line, column, e := parser.Parse(valid); text(got) != text(want) || line != 0 || column != 0 || e != api.OK {
		t.Errorf("Parse = %+v, %d, %d, error %d; want %+v", got, line, column, e, want)
	}
}

// TestP19_2Document reads the example of the whole document.
func TestP19_2Document(t *testing.T) {
	x, _, _, e := parser.Parse(`score "Duo" part "Flute" staff treble measure metre 3/4 key 1 { (3:2 G4:8 A4:8 B4:8) <C5 E5>:4 r:4 }`)
	if e != api.OK || len(x.Measures) != 1 {
		t.Fatalf("Parse = %+v, error %d", x, e)
	}
	slots, _ := measure.Slots(x.Measures[0])
	var ons []int
	for _, s := range slots {
		ons = append(ons, s.On)
	}
	if !slices.Equal(ons, []int{0, 161280, 322560, 483840, 967680}) {
		t.Errorf("the events begin at %v", ons)
	}
}

// reads compares the score of a text.
func reads(t *testing.T, s string, want api.Score) {
	t.Helper()
	got, line, column, e := parser.Read(s)
	if text(got) != text(want) || line != 0 || column != 0 || e != api.OK {
		t.Errorf("Read(%q) = %+v, %d, %d, error %d; want %+v", s, got, line, column, e, want)
	}
}

func TestP19_1Head(t *testing.T) {
	reads(t, `score ""`, api.Score{})
	reads(t, `score "a\n" written`, api.Score{Title: "a\n", Written: true})
	reads(t, `score "a" last @5.6 @ 0 . 07 @5.6`, api.Score{Title: "a", Last: []api.ID{{Site: 5, Number: 6}, at(7), {Site: 5, Number: 6}}})
	reads(t, `score "a" written last @99.1073741824 part "" part "b" transpose -140 140 staff bass8 staff treble`, api.Score{
		Title: "a", Written: true, Last: []api.ID{{Site: 99, Number: 1 << 30}},
		Parts: []api.Part{{ID: at(1)}, {ID: at(2), Name: "b", Transpose: api.Interval{Steps: -140, Semitones: 140}, Staves: []api.Staff{{ID: at(3), Clef: 9}, {ID: at(4), Clef: 1}}}},
	})
	for i, name := range choices["CLEF"] {
		reads(t, `score "" part "" staff `+name, api.Score{Parts: []api.Part{{ID: at(1), Staves: []api.Staff{{ID: at(2), Clef: i + 1}}}}, Last: []api.ID{at(2)}})
	}
	for i, word := range choices["KIND"] {
		reads(t, `score "" `+word+` (@1.2 @99.1)`+word+`@7.1(@0.1@0.1)`, api.Score{
			Spanners: []api.Spanner{{ID: at(1), Kind: i + 1, From: api.ID{Site: 1, Number: 2}, To: api.ID{Site: 99, Number: 1}}, {ID: api.ID{Site: 7, Number: 1}, Kind: i + 1, From: at(1), To: at(1)}},
			Last:     []api.ID{at(1), {Site: 7, Number: 1}},
		})
	}
}

func TestP19_1Ids(t *testing.T) {
	got, _, _, e := parser.Read(`score "" part @3.5 "" staff treble staff @2.1 treble part "" measure @3.4 { r:4 (3:2 @2.9 r:4 r:4) ; @0.1073741824 R / @3.6 s:4 } measure { r:4 } slur (@0.7 @0.8) slur @0.1 (@1.7 @1.8) slur (@98.7 @98.8)`)
	id := func(site, number int) api.ID { return api.ID{Site: site, Number: number} }
	want := []api.ID{
		id(3, 5), id(3, 6), id(2, 1), id(2, 2), id(3, 4), id(3, 5), id(2, 9), id(2, 10), id(0, 1<<30), id(3, 6), id(3, 7), id(3, 8), id(3, 9), id(0, 1), id(0, 2),
	}
	if l := score.IDs(got); !slices.Equal(l, want) || e != api.OK {
		t.Errorf("the ids are %v, error %d; want %v", l, e, want)
	}
	if last := []api.ID{id(0, 1<<30), id(2, 10), id(3, 9)}; !slices.Equal(got.Last, last) {
		t.Errorf("Last is %v; want %v", got.Last, last)
	}
}

func TestP19_1Options(t *testing.T) {
	four := api.Metre{Count: 4, Unit: 4}
	seven := api.Metre{Count: 7, Unit: 8, Groups: [6]int{2, 2, 3}}
	for s, want := range map[string]api.Measure{
		"":                {Metre: four},
		"metre 3/4":       {Metre: api.Metre{Count: 3, Unit: 4}},
		"metre 2+2+3/8":   {Metre: seven},
		"length 1":        {Metre: four, Length: 1},
		"key 7":           {Metre: four, Fifths: 7},
		"key -7":          {Metre: four, Fifths: -7},
		"key - 0":         {Metre: four},
		"repeat":          {Metre: four, RepeatStart: true},
		"times 8":         {Metre: four, RepeatEnd: 8},
		"endings 255":     {Metre: four, Endings: 255},
		"segno":           {Metre: four, Labels: 1},
		"coda":            {Metre: four, Labels: 2},
		"fine":            {Metre: four, Labels: 4},
		"tocoda":          {Metre: four, Labels: 8},
		"swing 100":       {Metre: four, Swing: 100},
		"break system":    {Metre: four, Break: 1},
		"break page":      {Metre: four, Break: 2},
		"break never":     {Metre: four, Break: 3},
		`mark "A"`:        {Metre: four, Rehearsal: "A"},
		`mark ""`:         {Metre: four},
		"tempo 0 1":       {Metre: four, Tempi: []api.TempoMark{{Micros: 1}}},
		"tempo 9 10 ramp": {Metre: four, Tempi: []api.TempoMark{{At: 9, Micros: 10, Ramp: true}}},
		"tempo 9 10 ramp tempo 4398046511104 60000000 tempo 0 1 ramp": {Metre: four, Tempi: []api.TempoMark{{At: 9, Micros: 10, Ramp: true}, {At: 1 << 42, Micros: 60000000}, {Micros: 1, Ramp: true}}},
		`metre 2+2+3/8 length 4398046511104 key -1 repeat times 2 endings 1 jump dacapo segno coda fine tocoda swing 1 break page mark "\x00" tempo 0 1`: {
			Metre: seven, Length: 1 << 42, Fifths: -1, RepeatStart: true, RepeatEnd: 2, Endings: 1, Jump: 1, Labels: 15, Swing: 1, Break: 2, Rehearsal: "\x00", Tempi: []api.TempoMark{{Micros: 1}},
		},
	} {
		second := api.Measure{ID: at(2), Metre: want.Metre, Fifths: want.Fifths, Cells: make([]api.Cell, 1)}
		want.ID, want.Cells = at(1), make([]api.Cell, 2)
		reads(t, `score "" measure `+s+"{ / } measure {}", api.Score{Measures: []api.Measure{want, second}, Last: []api.ID{at(2)}})
	}
	for i, word := range choices["JUMP"] {
		reads(t, `score "" measure jump `+word+"{}", api.Score{Measures: []api.Measure{{ID: at(1), Metre: four, Jump: i + 1, Cells: make([]api.Cell, 1)}}, Last: []api.ID{at(1)}})
	}
}

func TestP19_1Cells(t *testing.T) {
	rest := func(number int) api.Event { return api.Event{ID: at(number), Kind: api.Rest, Value: api.Value{Log: 2}} }
	for s, want := range map[string][]api.Cell{
		"":                          {{}},
		"/ / ":                      {{}, {}, {}},
		";":                         {{Voices: make([]api.Voice, 2)}},
		";;;":                       {{Voices: make([]api.Voice, 4)}},
		"r:4":                       {{Voices: []api.Voice{{Events: []api.Event{rest(2)}}}}},
		"r:4;":                      {{Voices: []api.Voice{{Events: []api.Event{rest(2)}}, {}}}},
		";r:4 r:4":                  {{Voices: []api.Voice{{}, {Events: []api.Event{rest(2), rest(3)}}}}},
		"clef 7 bass":               {{Clefs: []api.ClefChange{{At: 7, Clef: 2}}}},
		"clef 0 bass clef 0 alto ;": {{Clefs: []api.ClefChange{{Clef: 2}, {Clef: 3}}, Voices: make([]api.Voice, 2)}},
		"/ clef 4398046511104 treble8 r:4 / r:4": {
			{}, {Clefs: []api.ClefChange{{At: 1 << 42, Clef: 8}}, Voices: []api.Voice{{Events: []api.Event{rest(2)}}}}, {Voices: []api.Voice{{Events: []api.Event{rest(3)}}}},
		},
	} {
		got, _, _, e := parser.Read(`score "" measure {` + s + "}")
		if e != api.OK || text(got.Measures[0].Cells) != text(want) {
			t.Errorf("the cells of %q are %+v, error %d; want %+v", s, got.Measures, e, want)
		}
	}
}

func TestP19_3Voices(t *testing.T) {
	for s, want := range map[string][]api.Tuplet{
		"":                                      nil,
		"r:4 R s:4":                             nil,
		"(3:2 r:4)":                             {{First: 0, Count: 1, Actual: 3, Normal: 2}},
		"r:4 (1:32 r:4 r:4) r:4(32:1 s:b)":      {{First: 1, Count: 2, Actual: 1, Normal: 32}, {First: 4, Count: 1, Actual: 32, Normal: 1}},
		"(3:2 (5:4 R) r:4 (7:6 (9:8 r:4)) r:4)": {{First: 0, Count: 4, Actual: 3, Normal: 2}, {First: 0, Count: 1, Actual: 5, Normal: 4}, {First: 2, Count: 1, Actual: 7, Normal: 6}, {First: 2, Count: 1, Actual: 9, Normal: 8}},
		"(3:2(5:4 r:4(7:6 r:4 r:4)))(9:8 r:4)r:4": {{First: 0, Count: 3, Actual: 3, Normal: 2}, {First: 0, Count: 3, Actual: 5, Normal: 4}, {First: 1, Count: 2, Actual: 7, Normal: 6}, {First: 3, Count: 1, Actual: 9, Normal: 8}},
	} {
		got, line, column, e := parser.Voice(s)
		events := strings.Count(s, "r") + strings.Count(s, "R") + strings.Count(s, "s")
		if !slices.Equal(got.Tuplets, want) || len(got.Events) != events || line != 0 || column != 0 || e != api.OK {
			t.Errorf("Voice(%q) = %+v, %d, %d, error %d; want the tuplets %+v", s, got, line, column, e, want)
		}
	}
	// Tuplets may contain one another as often as a text has room for it.
	const levels = lexer.MaxTokens/5 - 1
	got, _, _, e := parser.Voice(strings.Repeat("(3:2", levels) + "R" + strings.Repeat(")", levels))
	if e != api.OK || len(got.Tuplets) != levels || got.Tuplets[levels-1] != (api.Tuplet{Count: 1, Actual: 3, Normal: 2}) {
		t.Errorf("Voice returns %d tuplets, error %d", len(got.Tuplets), e)
	}
	// Ids that are not written are zero, also behind those that are.
	v, _, _, e := parser.Voice("r:4 @3.4 r:4 r:4")
	if e != api.OK || v.Events[0].ID != (api.ID{}) || v.Events[1].ID != (api.ID{Site: 3, Number: 4}) || v.Events[2].ID != (api.ID{}) {
		t.Errorf("Voice = %+v, error %d", v, e)
	}
}

func TestP19_3Events(t *testing.T) {
	quarter := api.Value{Log: 2}
	c4 := api.Pitch{Octave: 4}
	sung := func(l ...api.Syllable) api.Event { return api.Event{Kind: api.Rest, Value: quarter, Lyrics: l} }
	extender := api.Syllable{Link: api.Extender}
	for s, want := range map[string]api.Event{
		"R":                       {Kind: api.MeasureRest},
		"r:4":                     {Kind: api.Rest, Value: quarter},
		"s : 4":                   {Kind: api.Skip, Value: quarter},
		"@12.7 R":                 {ID: api.ID{Site: 12, Number: 7}, Kind: api.MeasureRest},
		"r:b...":                  {Kind: api.Rest, Value: api.Value{Log: -1, Dots: 3}},
		"r:256.":                  {Kind: api.Rest, Value: api.Value{Log: 8, Dots: 1}},
		"C4:4":                    note(api.ID{}, quarter, 0, 4),
		"<C4>:4":                  note(api.ID{}, quarter, 0, 4),
		"B#-1:1":                  {Kind: api.Chord, Heads: []api.Head{{Pitch: api.Pitch{Step: 6, Alter: 1, Octave: -1}}}},
		"Gbb9:1":                  {Kind: api.Chord, Heads: []api.Head{{Pitch: api.Pitch{Step: 4, Alter: -2, Octave: 9}}}},
		"<C-1F##4~Ab4!C4 ~ ?>:2.": {Kind: api.Chord, Value: api.Value{Log: 1, Dots: 1}, Heads: []api.Head{{Pitch: api.Pitch{Octave: -1}}, {Pitch: api.Pitch{Step: 3, Alter: 2, Octave: 4}, Tied: true}, {Pitch: api.Pitch{Step: 5, Alter: -1, Octave: 4}, Show: api.ShowAlways}, {Pitch: c4, Tied: true, Show: api.ShowParentheses}}},
		"grace (C4:2) R":          {Kind: api.MeasureRest, Graces: []api.Grace{{Pitch: c4, Log: 1}}},
		"@0.1 grace ( / C4:64 C4:04/C4:8C4:16C4:32) R": {ID: at(1), Kind: api.MeasureRest, Graces: []api.Grace{{Pitch: c4, Log: 6, Slash: true}, {Pitch: c4, Log: 2}, {Pitch: c4, Log: 3, Slash: true}, {Pitch: c4, Log: 4}, {Pitch: c4, Log: 5}}},
		`r:4 "la"`:             sung(api.Syllable{Text: "la"}),
		`r:4"la"-"lu"_""`:      sung(api.Syllable{Text: "la", Link: api.Hyphen}, api.Syllable{Text: "lu", Link: api.Extender}, api.Syllable{}),
		`r:4_ _ "la" _ "lu"__`: sung(extender, extender, api.Syllable{Text: "la"}, extender, api.Syllable{Text: "lu", Link: api.Extender}, extender),
		`r:4 ""_ "la"-_ "-"-`:  sung(extender, api.Syllable{Text: "la", Link: api.Hyphen}, extender, api.Syllable{Text: "-", Link: api.Hyphen}),
		"r:4 \"la\"%\n_":       sung(api.Syllable{Text: "la"}, extender),
		`R [accent turn] _`:    {Kind: api.MeasureRest, Articulations: api.Accent, Ornament: api.Turn, Lyrics: []api.Syllable{extender}},
		`r:4[staccato tenuto accent marcato fermata trill ppp up apart]`: {Kind: api.Rest, Value: quarter, Articulations: 31, Ornament: 1, Dynamic: 1, Stem: 1, Beam: 1},
		`r:4 [tenuto marcato sfz down join]`:                             {Kind: api.Rest, Value: quarter, Articulations: 10, Dynamic: 9, Stem: 2, Beam: 2},
	} {
		got, line, column, e := parser.Event(s)
		if text(got) != text(want) || line != 0 || column != 0 || e != api.OK {
			t.Errorf("Event(%q) = %+v, %d, %d, error %d; want %+v", s, got, line, column, e, want)
		}
	}
}

func TestP19_3Signs(t *testing.T) {
	fields := func(x api.Event) []int { return []int{x.Ornament, x.Dynamic, x.Stem, x.Beam} }
	for i, word := range signs[0] {
		if x, _, _, e := parser.Event("R[" + word + "]"); e != api.OK || x.Articulations != 1<<i || !slices.Equal(fields(x), make([]int, 4)) {
			t.Errorf("the word %s is read as %+v, error %d", word, x, e)
		}
	}
	for group, words := range signs[1:] {
		for i, word := range words {
			want := make([]int, 4)
			want[group] = i + 1
			if x, _, _, e := parser.Event("R[" + word + "]"); e != api.OK || x.Articulations != 0 || !slices.Equal(fields(x), want) {
				t.Errorf("the word %s is read as %+v, error %d", word, x, e)
			}
		}
	}
}

// endOf returns the place of End.
func endOf(s string) (line, column int) {
	lines := strings.Split(s, "\n")
	return len(lines), len(lines[len(lines)-1]) + 1
}

// TestP19_2Random writes scores, valid ones, damaged ones and any ones, and reads them again. Blanks and ids that are written in vain make no difference (P19.5).
func TestP19_2Random(t *testing.T) {
	t.Parallel()
	valid := 0
	for seed := range 3000 {
		r := sample.New(seed)
		want := wild(r)
		if seed%4 == 0 {
			want = sample.Score(r)
		}
		if seed%8 == 0 {
			damage(r, &want)
		}
		s := written(r, true, func(w *writer) { w.score(want) })
		got, line, column, e := parser.Read(s)
		if text(got) != text(want) || line != 0 || column != 0 || e != api.OK {
			t.Fatalf("seed %d: Read(%q) = %+v, %d, %d, error %d; want %+v", seed, s, got, line, column, e, want)
		}
		got, line, column, e = parser.Parse(s)
		wantLine, wantColumn, wantError := 0, 0, api.OK
		if check.Valid(want) {
			valid++
		} else {
			wantLine, wantColumn = endOf(s)
			want, wantError = api.Score{}, api.ErrRule
		}
		if text(got) != text(want) || line != wantLine || column != wantColumn || e != wantError {
			t.Fatalf("seed %d: Parse(%q) = %+v, %d, %d, error %d; want %+v, %d, %d, error %d", seed, s, got, line, column, e, want, wantLine, wantColumn, wantError)
		}
	}
	if valid < 300 {
		t.Error("only", valid, "scores were valid")
	}
}

// damage changes something of a score.
func damage(r *sample.Source, s *api.Score) {
	m := &s.Measures[r.Below(len(s.Measures))]
	switch r.Below(5) {
	case 0:
		m.Swing = 1
	case 1:
		m.ID = api.ID{Number: 1}
	case 2:
		m.Cells = append(m.Cells, api.Cell{})
	case 3:
		s.Title = "\n"
	case 4:
		s.Last = []api.ID{{Site: 1, Number: 1}}
	}
}

func TestP19_3Random(t *testing.T) {
	t.Parallel()
	for seed := range 3000 {
		g := &maker{Source: sample.New(seed)}
		want := g.voice(1)
		for i := range want.Events {
			if g.Chance(70) {
				want.Events[i].ID = api.ID{}
			}
		}
		s := written(g.Source, false, func(w *writer) { w.voice(want) })
		if got, line, column, e := parser.Voice(s); text(got) != text(want) || line != 0 || column != 0 || e != api.OK {
			t.Fatalf("seed %d: Voice(%q) = %+v, %d, %d, error %d; want %+v", seed, s, got, line, column, e, want)
		}
		s = written(g.Source, false, func(w *writer) { w.event(want.Events[0]) })
		if got, line, column, e := parser.Event(s); text(got) != text(want.Events[0]) || line != 0 || column != 0 || e != api.OK {
			t.Fatalf("seed %d: Event(%q) = %+v, %d, %d, error %d; want %+v", seed, s, got, line, column, e, want.Events[0])
		}
	}
}

func TestP19_4Keywords(t *testing.T) {
	want := strings.Fields("score written last part transpose staff measure metre length key repeat times endings jump segno coda fine tocoda swing break mark tempo ramp clef grace")
	for name, words := range choices {
		if name != "CLEF" {
			want = append(want, words...)
		}
	}
	slices.Sort(want)
	want = slices.Compact(want)
	l := parser.Keywords()
	if !slices.Equal(l, want) {
		t.Errorf("Keywords = %q; want %q", l, want)
	}
	// These are the words of the grammar, and of the lists behind it.
	for word := range strings.FieldsSeq(strings.ReplaceAll(grammar, `"`, " ")) {
		single := len(word) == 1 || strings.ToLower(word) != word
		if quoted := strings.Contains(grammar, `"`+word+`"`); quoted && !single && !slices.Contains(l, word) {
			t.Errorf("Keywords lacks %q", word)
		}
	}
	clear(l)
	if l := parser.Keywords(); !slices.Equal(l, want) {
		t.Errorf("Keywords = %q after a result was changed", l)
	}
}

// TestP19_5Blanks changes blanks where they matter: between the tokens of composed ones.
func TestP19_5Blanks(t *testing.T) {
	for s, want := range map[string]api.Errno{
		"C#4:4": api.OK, "C #4:4": api.ErrPitch, "C# 4:4": api.ErrPitch, "C-1:4": api.OK, "C- 1:4": api.ErrPitch, "C4 4:4": api.ErrSyntax, "Cb 4:4": api.ErrPitch, "C4 -:4": api.ErrSyntax,
		"C4:4.": api.OK, "C4:4 .": api.ErrSyntax, "C4:4.%\n.": api.ErrSyntax, "C4 : 4": api.OK, "C4:b": api.OK, "C4:b.": api.OK, "C4:b .": api.ErrSyntax, "C4:b4": api.ErrSyntax, "C4:b_": api.ErrSyntax, "R_": api.ErrSyntax,
	} {
		if _, _, _, e := parser.Event(s); e != want {
			t.Errorf("Event(%q) returns the error %d; want %d", s, e, want)
		}
	}
	for s, want := range map[string]api.Errno{
		"3/4": api.OK, "3 /4": api.ErrMetre, "3/ 4": api.ErrMetre, "2+2+3/8": api.OK, "2+2 +3/8": api.ErrMetre, "3/4 8": api.ErrSyntax, "3/4key 1": api.OK, "3/4.": api.ErrSyntax, "/4": api.ErrSyntax,
	} {
		if _, _, _, e := parser.Read(`score "" measure metre ` + s + "{}"); e != want {
			t.Errorf("the metre %q is the error %d; want %d", s, e, want)
		}
	}
}

// TestP19_5Fresh shows that the lists of a result are its own.
func TestP19_5Fresh(t *testing.T) {
	a, _, _, _ := parser.Read(duo)
	b, _, _, _ := parser.Read(duo)
	before := text(b)
	x := &a.Measures[0].Cells[0].Voices[0].Events[3]
	x.Heads[0], x.Lyrics[0], a.Last[0], a.Parts[0].Staves[0].Clef = api.Head{}, api.Syllable{}, api.ID{}, 5
	a.Measures[0].Cells[0].Voices[0].Tuplets[0].Count = math.MaxInt
	again, _, _, _ := parser.Read(duo)
	if text(b) != before || text(again) != before {
		t.Error("a result is changed with another one")
	}
}
