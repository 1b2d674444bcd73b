package measure_test

import (
	"math/rand"
	"reflect"
	"slices"
	"strconv"
	"strings"
	"testing"

	"hemiola/api"
	"hemiola/duration"
	"hemiola/event"
	"hemiola/measure"
	"hemiola/metre"
	"hemiola/pitch"
	"hemiola/tuplet"
	"hemiola/voice"
)

const (
	whole   = 1935360
	half    = whole / 2
	quarter = whole / 4
	eighth  = whole / 8
	finest  = 7560
)

func must[T any](x T, e api.Errno) T {
	if e != api.OK {
		panic("error " + strconv.Itoa(int(e)))
	}
	return x
}

// signature returns the time signature with a text.
func signature(text string) api.Metre { return must(metre.Parse(text)) }

// read returns the measure in a time signature with some cells. The voices of a cell are separated by bars: "7=C4:4.~" is a dotted quarter note with the id {1, 7}, which is tied; r is a rest, s a skip, R a measure rest; "(3:2" and ")" enclose a tuplet; "@483840=2" is a change to the clef 2.
func read(text string, cells ...string) api.Measure {
	m := api.Measure{ID: api.ID{Site: 5, Number: 99}, Metre: signature(text)}
	for _, cell := range cells {
		m.Cells = append(m.Cells, readCell(cell))
	}
	return m
}

func readCell(text string) api.Cell {
	var c api.Cell
	for i, part := range strings.Split(text, "|") {
		words := strings.Fields(part)
		for i == 0 && len(words) > 0 && words[0][0] == '@' {
			at, clef, _ := strings.Cut(words[0][1:], "=")
			c.Clefs = append(c.Clefs, api.ClefChange{At: must(number(at)), Clef: must(number(clef))})
			words = words[1:]
		}
		c.Voices = append(c.Voices, readVoice(words))
	}
	return c
}

func number(text string) (int, api.Errno) {
	n, err := strconv.Atoi(text)
	if err != nil {
		return 0, api.ErrFormat
	}
	return n, api.OK
}

func readVoice(words []string) api.Voice {
	var v api.Voice
	open := -1
	for _, word := range words {
		switch {
		case word[0] == '(':
			actual, normal, _ := strings.Cut(word[1:], ":")
			open = len(v.Tuplets)
			v.Tuplets = append(v.Tuplets, api.Tuplet{First: len(v.Events), Actual: must(number(actual)), Normal: must(number(normal))})
		case word == ")":
			v.Tuplets[open].Count = len(v.Events) - v.Tuplets[open].First
		default:
			v.Events = append(v.Events, readEvent(word))
		}
	}
	return v
}

func readEvent(word string) api.Event {
	var x api.Event
	if id, rest, ok := strings.Cut(word, "="); ok {
		x.ID, word = api.ID{Site: 1, Number: must(number(id))}, rest
	}
	word, tied := strings.CutSuffix(word, "~")
	name, value, _ := strings.Cut(word, ":")
	switch name {
	case "R":
		x.Kind = api.MeasureRest
		return x
	case "r":
		x.Kind = api.Rest
	case "s":
		x.Kind = api.Skip
	default:
		p, _, e := pitch.Parse(name)
		x.Kind, x.Heads = api.Chord, []api.Head{{Pitch: must(p, e), Tied: tied}}
	}
	x.Value = must(duration.Parse(value))
	return x
}

// changed returns a measure after a change of a copy.
func changed(m api.Measure, change func(m *api.Measure)) api.Measure {
	m = copied(m)
	change(&m)
	return m
}

// copied returns a copy of a measure without nil lists, and equal compares measures; nil lists are equal to empty ones.
func copied(m api.Measure) api.Measure {
	m.Tempi = append([]api.TempoMark{}, m.Tempi...)
	m.Cells = append([]api.Cell{}, m.Cells...)
	for i, c := range m.Cells {
		m.Cells[i] = api.Cell{Clefs: append([]api.ClefChange{}, c.Clefs...)}
		m.Cells[i].Voices = []api.Voice{}
		for _, v := range c.Voices {
			m.Cells[i].Voices = append(m.Cells[i].Voices, copiedVoice(v))
		}
	}
	return m
}

func copiedVoice(v api.Voice) api.Voice {
	c := api.Voice{Events: append([]api.Event{}, v.Events...), Tuplets: append([]api.Tuplet{}, v.Tuplets...)}
	for i, x := range c.Events {
		c.Events[i].Heads = append([]api.Head{}, x.Heads...)
		c.Events[i].Graces = append([]api.Grace{}, x.Graces...)
		c.Events[i].Lyrics = append([]api.Syllable{}, x.Lyrics...)
	}
	return c
}

func equal(a, b api.Measure) bool { return reflect.DeepEqual(copied(a), copied(b)) }

// spoil changes all that the lists of a measure contain.
func spoil(m api.Measure) {
	for i := range m.Tempi {
		m.Tempi[i] = api.TempoMark{At: -77}
	}
	for i, c := range m.Cells {
		spoilCell(c)
		m.Cells[i] = api.Cell{}
	}
}

func spoilCell(c api.Cell) {
	for i := range c.Clefs {
		c.Clefs[i] = api.ClefChange{At: -77}
	}
	for i, v := range c.Voices {
		for k, x := range v.Events {
			for n := range x.Heads {
				x.Heads[n] = api.Head{Show: 77}
			}
			for n := range x.Graces {
				x.Graces[n] = api.Grace{Log: 77}
			}
			for n := range x.Lyrics {
				x.Lyrics[n] = api.Syllable{Link: 77}
			}
			v.Events[k] = api.Event{Kind: 77}
		}
		for k := range v.Tuplets {
			v.Tuplets[k] = api.Tuplet{First: 77}
		}
		c.Voices[i] = api.Voice{}
	}
}

// lengthOf returns the length of a measure as the chapter says.
func lengthOf(m api.Measure) (int, api.Errno) {
	if e := metre.Check(m.Metre); e != api.OK {
		return 0, e
	}
	length := m.Length
	if length == 0 {
		length = m.Metre.Count * whole / m.Metre.Unit
	}
	switch {
	case m.Length < 0:
		return 0, api.ErrRange
	case length%finest != 0:
		return 0, api.ErrTick
	case length > 8*whole:
		return 0, api.ErrLong
	}
	return length, api.OK
}

// placeOf returns the place of a measure.
func placeOf(m api.Measure) (voice.Place, api.Errno) {
	length, e := lengthOf(m)
	if e != api.OK {
		return voice.Place{}, e
	}
	offset := m.Metre.Count*whole/m.Metre.Unit - length
	return voice.Place{Metre: m.Metre, Offset: max(offset, 0), Length: length}, api.OK
}

// checkOf returns the first error of a measure.
func checkOf(m api.Measure, staves int) api.Errno {
	length, e := lengthOf(m)
	switch {
	case e != api.OK:
		return e
	case m.Fifths < -7 || m.Fifths > 7:
		return api.ErrRange
	case len(m.Cells) != staves:
		return api.ErrLength
	}
	for _, c := range m.Cells {
		before := -1
		for i, change := range c.Clefs {
			switch {
			case change.Clef < 1 || change.Clef > 9:
				return api.ErrKind
			case change.At < 0 || change.At > length-1:
				return api.ErrRange
			case i > 0 && change.At <= before:
				return api.ErrOrder
			}
			before = change.At
		}
		if len(c.Voices) > 2 {
			return api.ErrLimit
		}
		for i := range 2 {
			if len(c.Voices) <= i || len(c.Voices[i].Events) == 0 {
				if i == 0 {
					return api.ErrState
				}
				continue
			}
			if _, e := onsetsOf(c.Voices[i], length); e != api.OK {
				return e
			}
		}
	}
	return api.OK
}

// onsetsOf returns the onsets of the events of a voice that is present, and its end.
func onsetsOf(v api.Voice, length int) ([]int, api.Errno) {
	if e := voice.Check(v, length); e != api.OK {
		return nil, e
	}
	if v.Events[0].Kind == api.MeasureRest {
		return []int{0, length}, api.OK
	}
	var written []int
	for _, x := range v.Events {
		written = append(written, must(event.Written(x)))
	}
	onsets := []int{0}
	for i, n := range must(tuplet.Lengths(v.Tuplets, written)) {
		onsets = append(onsets, onsets[i]+n)
	}
	return onsets, api.OK
}

// slotsOf returns the slots of a measure.
func slotsOf(m api.Measure) ([]measure.Slot, api.Errno) {
	length, e := lengthOf(m)
	if e != api.OK {
		return nil, e
	}
	var slots []measure.Slot
	for staff, c := range m.Cells {
		for k, v := range c.Voices {
			if len(v.Events) == 0 {
				continue
			}
			onsets, e := onsetsOf(v, length)
			if e != api.OK {
				return nil, e
			}
			for i := range v.Events {
				slots = append(slots, measure.Slot{Staff: staff, Voice: k, Event: i, On: onsets[i], Off: onsets[i+1]})
			}
		}
	}
	return slots, api.OK
}

// fitOf returns a measure with another time signature and length.
func fitOf(m api.Measure, sign api.Metre, length int) (api.Measure, api.Errno) {
	before, e := placeOf(m)
	if e != api.OK {
		return api.Measure{}, e
	}
	out := copied(m)
	out.Metre, out.Length = sign, length
	after, e := placeOf(out)
	if e != api.OK {
		return api.Measure{}, e
	}
	if length == sign.Count*whole/sign.Unit {
		out.Length = 0
	}
	out.Tempi = nil
	for _, mark := range m.Tempi {
		if mark.At < after.Length {
			out.Tempi = append(out.Tempi, mark)
		}
	}
	for i, c := range m.Cells {
		out.Cells[i].Clefs = nil
		for _, change := range c.Clefs {
			if change.At < after.Length {
				out.Cells[i].Clefs = append(out.Cells[i].Clefs, change)
			}
		}
		for k, v := range c.Voices {
			if out.Cells[i].Voices[k], e = fittedOf(v, before, after); e != api.OK {
				return api.Measure{}, e
			}
		}
	}
	return out, api.OK
}

// fittedOf returns a voice of a measure with another time signature and length.
func fittedOf(v api.Voice, before, after voice.Place) (api.Voice, api.Errno) {
	rest := len(v.Events) == 1 && v.Events[0].Kind == api.MeasureRest
	if len(v.Events) == 0 || rest || before.Length == after.Length {
		return copiedVoice(v), api.OK
	}
	var e api.Errno
	if after.Length < before.Length {
		v, e = voice.Cut(v, before, 0, after.Length)
	} else {
		v = copiedVoice(v)
		for _, value := range must(metre.Split(after.Metre, after.Offset+before.Length, after.Offset+after.Length)) {
			v.Events = append(v.Events, api.Event{Kind: api.Rest, Value: value})
		}
	}
	if e == api.OK {
		e = voice.Check(v, after.Length)
	}
	return v, e
}

// source makes measures at random.
type source struct{ *rand.Rand }

func pick[T any](r source, l ...T) T { return l[r.Intn(len(l))] }

func (r source) signature() api.Metre {
	return signature(pick(r, "4/4", "4/4", "3/4", "6/8", "2+2+3/8", "2/2", "5/8", "3/16", "16/1"))
}

// length returns a length that suits a time signature: 0, a shorter or a longer one, or, rarely, a wrong one.
func (r source) length(m api.Metre) int {
	usual := m.Count * whole / m.Unit
	switch r.Intn(12) {
	case 0, 1:
		return usual
	case 2:
		return (r.Intn(usual/finest) + 1) * finest % (8*whole + finest)
	case 3:
		return min(usual+(r.Intn(60)+1)*finest, 8*whole)
	case 4:
		return pick(r, quarter, eighth, half, whole, 2*whole, 8*whole)
	case 5:
		return pick(r, -1, -whole, 1, finest+1, 8*whole+finest, 0, 0, 0)
	}
	return 0
}

// measure returns a measure. It is usually valid.
func (r source) measure() api.Measure {
	m := api.Measure{ID: r.id(), Metre: r.signature(), Fifths: r.Intn(15) - 7, Rehearsal: pick(r, "", "A"), Labels: r.Intn(16), Swing: pick(r, 0, 60)}
	m.Length = r.length(m.Metre)
	length, e := lengthOf(m)
	if e != api.OK {
		length = whole
	}
	for range r.Intn(4) {
		c := api.Cell{}
		for at := r.Intn(length); at < length && r.Intn(2) == 0; at += 1 + r.Intn(length) {
			c.Clefs = append(c.Clefs, api.ClefChange{At: at, Clef: 1 + r.Intn(9)})
		}
		for range pick(r, 1, 1, 2) {
			c.Voices = append(c.Voices, r.voice(length))
		}
		m.Cells = append(m.Cells, c)
	}
	for at := r.Intn(length); at < length && r.Intn(2) == 0; at += 1 + r.Intn(length) {
		m.Tempi = append(m.Tempi, api.TempoMark{At: at, Micros: 1 + r.Intn(9), Ramp: r.Intn(2) == 0})
	}
	if r.Intn(4) == 0 {
		r.damage(&m)
	}
	return m
}

func (r source) id() api.ID {
	return pick(r, api.ID{}, api.ID{}, api.ID{Site: r.Intn(3), Number: r.Intn(9)})
}

// voice returns a valid voice of a length: events that last up to some ticks, and a triplet in some quarters.
func (r source) voice(length int) api.Voice {
	if r.Intn(6) == 0 {
		return api.Voice{Events: []api.Event{{ID: r.id(), Kind: api.MeasureRest}}}
	}
	var v api.Voice
	for at := 0; at < length; {
		if r.Intn(8) == 0 && length-at >= quarter && len(v.Tuplets) < api.MaxTuplets {
			v.Tuplets = append(v.Tuplets, api.Tuplet{First: len(v.Events), Count: 3, Actual: 3, Normal: 2})
			for range 3 {
				v.Events = append(v.Events, r.event(api.Value{Log: 3}))
			}
			at += quarter
			continue
		}
		to := min(length, at+pick(r, eighth, quarter, quarter, half, half, whole, 2*whole, (1+r.Intn(99))*finest))
		for _, value := range must(metre.Split(signature("4/4"), at, to)) {
			v.Events = append(v.Events, r.event(value))
		}
		at = to
	}
	if len(v.Events) > api.MaxEvents {
		return r.voice(length)
	}
	return v
}

func (r source) event(value api.Value) api.Event {
	x := api.Event{ID: r.id(), Kind: pick(r, api.Chord, api.Chord, api.Rest, api.Skip), Value: value}
	if x.Kind != api.Chord {
		return x
	}
	x.Heads = []api.Head{{Pitch: api.Pitch{Step: r.Intn(7), Octave: 4}, Tied: r.Intn(3) == 0}}
	if r.Intn(4) == 0 {
		x.Graces = []api.Grace{{Pitch: api.Pitch{Octave: 4}, Log: 3}}
		x.Lyrics = []api.Syllable{{Text: "la"}}
		x.Articulations = r.Intn(32)
	}
	return x
}

// damage makes something in a measure wrong.
func (r source) damage(m *api.Measure) {
	switch r.Intn(4) {
	case 0:
		m.Metre = pick(r, api.Metre{}, api.Metre{Count: 65, Unit: 4}, api.Metre{Count: 4, Unit: 3}, api.Metre{Count: 4, Unit: 4, Groups: [6]int{3, 2}}, signature("9/1"))
		return
	case 1:
		m.Fifths = pick(r, -8, 8)
		return
	}
	if len(m.Cells) == 0 {
		return
	}
	c := &m.Cells[r.Intn(len(m.Cells))]
	v := &c.Voices[r.Intn(len(c.Voices))]
	switch r.Intn(10) {
	case 0:
		c.Clefs = append(c.Clefs, api.ClefChange{At: r.Intn(whole), Clef: r.Intn(11)})
	case 1:
		c.Clefs = append(c.Clefs, api.ClefChange{At: pick(r, -1, 0, whole, whole-1), Clef: 1})
	case 2:
		c.Voices = append(c.Voices, *v, api.Voice{})
	case 3:
		c.Voices = nil
	case 4:
		v.Events = nil
	case 5:
		v.Events = slices.Clip(v.Events[1:])
	case 6:
		v.Events = append(slices.Clip(v.Events), r.event(api.Value{Log: 2}))
	case 7:
		v.Events[r.Intn(len(v.Events))].Kind = r.Intn(6)
	case 8:
		v.Tuplets = append(v.Tuplets, api.Tuplet{First: r.Intn(2), Count: 1 + r.Intn(3), Actual: 3, Normal: 2})
	case 9:
		v.Events = append(slices.Clip(v.Events), slices.Repeat(v.Events[:1], 128)...)
	}
}

// measures calls a function with many measures, and reports an error if it changes one.
func measures(t *testing.T, count int, test func(r source, m api.Measure)) {
	t.Helper()
	r := source{rand.New(rand.NewSource(13))}
	for range count {
		m := r.measure()
		kept := copied(m)
		if test(r, m); !equal(m, kept) {
			t.Fatalf("the argument %v was changed from %v", m, kept)
		}
	}
}
