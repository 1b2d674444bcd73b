package voice_test

import (
	"math/rand"
	"reflect"
	"slices"
	"strconv"
	"strings"
	"testing"

	"hemiola/api"
	"hemiola/duration"
	"hemiola/event"
	"hemiola/metre"
	"hemiola/pitch"
	"hemiola/tuplet"
	"hemiola/voice"
)

const (
	whole     = 1935360
	half      = whole / 2
	quarter   = whole / 4
	eighth    = whole / 8
	sixteenth = whole / 16
	finest    = 7560
)

func must[T any](x T, e api.Errno) T {
	if e != api.OK {
		panic("error " + strconv.Itoa(int(e)))
	}
	return x
}

// read returns the voice that is written in a text: "7=C4+E4:4.~!?^" is a dotted quarter chord with the id {1, 7}, with all heads tied, a fermata and a dynamic, displayed accidentals, and its stem up; r is a rest, s a skip, R a measure rest; "(3:2" and ")" enclose a tuplet.
func read(text string) api.Voice {
	var v api.Voice
	var open []int
	for _, word := range strings.Fields(text) {
		switch {
		case word[0] == '(':
			actual, normal, _ := strings.Cut(word[1:], ":")
			open = append(open, len(v.Tuplets))
			v.Tuplets = append(v.Tuplets, api.Tuplet{First: len(v.Events), Actual: number(actual), Normal: number(normal)})
		case word == ")":
			t := &v.Tuplets[open[len(open)-1]]
			t.Count = len(v.Events) - t.First
			open = open[:len(open)-1]
		default:
			v.Events = append(v.Events, readEvent(word))
		}
	}
	return v
}

func number(text string) int {
	n, err := strconv.Atoi(text)
	if err != nil {
		panic(err)
	}
	return n
}

func readEvent(word string) api.Event {
	var x api.Event
	if id, rest, ok := strings.Cut(word, "="); ok {
		x.ID, word = api.ID{Site: 1, Number: number(id)}, rest
	}
	marks := ""
	if at := strings.IndexAny(word, "~!?^"); at >= 0 {
		word, marks = word[:at], word[at:]
	}
	name, value, _ := strings.Cut(word, ":")
	switch name {
	case "R":
		x.Kind = api.MeasureRest
	case "r":
		x.Kind = api.Rest
	case "s":
		x.Kind = api.Skip
	default:
		x.Kind = api.Chord
		for _, s := range strings.Split(name, "+") {
			p, _, e := pitch.Parse(s)
			x.Heads = append(x.Heads, api.Head{Pitch: must(p, e), Tied: strings.Contains(marks, "~")})
		}
	}
	if x.Kind != api.MeasureRest {
		x.Value = must(duration.Parse(value))
	}
	if strings.Contains(marks, "!") {
		x.Dynamic, x.Articulations = api.DynamicPPP, api.Fermata
	}
	if strings.Contains(marks, "?") {
		for i := range x.Heads {
			x.Heads[i].Show = api.ShowAlways
		}
	}
	if strings.Contains(marks, "^") {
		x.Stem = api.StemUp
	}
	return x
}

// in returns the place of a measure with a time signature such as "4/4" that begins and ends with it.
func in(text string) voice.Place {
	m := must(metre.Parse(text))
	return voice.Place{Metre: m, Length: must(metre.Length(m))}
}

// copied returns a copy of a voice without nil lists, and equal compares voices; nil lists are equal to empty ones.
func copied(v api.Voice) api.Voice {
	c := api.Voice{Events: append([]api.Event{}, v.Events...), Tuplets: append([]api.Tuplet{}, v.Tuplets...)}
	for i, x := range c.Events {
		c.Events[i].Heads = append([]api.Head{}, x.Heads...)
		c.Events[i].Graces = append([]api.Grace{}, x.Graces...)
		c.Events[i].Lyrics = append([]api.Syllable{}, x.Lyrics...)
	}
	return c
}

func equal(a, b api.Voice) bool { return reflect.DeepEqual(copied(a), copied(b)) }

// spoil changes all that a voice contains.
func spoil(v api.Voice) {
	for i, x := range v.Events {
		for k := range x.Heads {
			x.Heads[k] = api.Head{Show: 77}
		}
		for k := range x.Graces {
			x.Graces[k] = api.Grace{Log: 77}
		}
		for k := range x.Lyrics {
			x.Lyrics[k] = api.Syllable{Link: 77}
		}
		v.Events[i] = api.Event{Kind: 77}
	}
	for i := range v.Tuplets {
		v.Tuplets[i] = api.Tuplet{First: 77}
	}
}

// lengthsOf returns the lengths of the events of a voice and their sum, and the error that Check must return.
func lengthsOf(v api.Voice, length int) (lengths []int, total int, e api.Errno) {
	if length < 1 || length > 8*whole {
		return nil, 0, api.ErrRange
	}
	if len(v.Events) > 128 {
		return nil, 0, api.ErrLimit
	}
	var written []int
	for _, x := range v.Events {
		if e := event.Check(x); e != api.OK {
			return nil, 0, e
		}
		if x.Kind == api.MeasureRest && len(v.Events) > 1 {
			return nil, 0, api.ErrKind
		}
		written = append(written, must(event.Written(x)))
	}
	if len(v.Events) == 1 && v.Events[0].Kind == api.MeasureRest {
		if len(v.Tuplets) > 0 {
			return nil, 0, api.ErrTuplet
		}
		return []int{length}, length, api.OK
	}
	if lengths, e = tuplet.Lengths(v.Tuplets, written); e != api.OK {
		return nil, 0, e
	}
	if _, e := tuplet.Units(v.Tuplets, written); e != api.OK {
		return nil, 0, api.ErrTuplet
	}
	for _, n := range lengths {
		total += n
	}
	if len(lengths) > 0 && total != length {
		return lengths, total, api.ErrLength
	}
	return lengths, total, api.OK
}

// onsetsOf returns the onsets of the events of a valid voice, and its end.
func onsetsOf(v api.Voice, length int) []int {
	lengths, _, _ := lengthsOf(v, length)
	onsets := []int{0}
	for i, n := range lengths {
		onsets = append(onsets, onsets[i]+n)
	}
	return onsets
}

// notesOf returns the notes of an event as the chapter defines them.
func notesOf(x api.Event, m api.Metre, from, to int) ([]api.Event, api.Errno) {
	if e := event.Check(x); e != api.OK {
		return nil, e
	}
	if x.Kind == api.MeasureRest {
		return nil, api.ErrKind
	}
	values, e := metre.Split(m, from, to)
	var notes []api.Event
	for i, v := range values {
		note := api.Event{Kind: x.Kind, Stem: x.Stem, Value: v, Heads: slices.Clone(x.Heads)}
		for k := range note.Heads {
			note.Heads[k].Show = 0
		}
		if i == 0 {
			note = event.Clone(x)
			note.Value = v
		}
		for k := range note.Heads {
			note.Heads[k].Tied = x.Heads[k].Tied || i < len(values)-1
		}
		notes = append(notes, note)
	}
	return notes, e
}

// member is an event with the tuplets that contain it.
type member struct {
	x  api.Event
	in []*api.Tuplet
}

// members returns the events of a voice with their tuplets.
func members(v api.Voice) []member {
	var l []member
	for i, x := range v.Events {
		m := member{x: x}
		for k := range v.Tuplets {
			if t := &v.Tuplets[k]; t.First <= i && i < t.First+t.Count {
				m.in = append(m.in, t)
			}
		}
		l = append(l, m)
	}
	return l
}

// voiceOf returns the voice of events with their tuplets.
func voiceOf(l []member) api.Voice {
	var v api.Voice
	place := map[*api.Tuplet]int{}
	for i, m := range l {
		v.Events = append(v.Events, m.x)
		for _, t := range m.in {
			if _, known := place[t]; !known {
				place[t] = len(v.Tuplets)
				v.Tuplets = append(v.Tuplets, api.Tuplet{First: i, Actual: t.Actual, Normal: t.Normal})
			}
			v.Tuplets[place[t]].Count++
		}
	}
	return v
}

// placeError returns the error of a place and of a voice in it.
func placeError(v api.Voice, p voice.Place) api.Errno {
	if e := metre.Check(p.Metre); e != api.OK {
		return e
	}
	if p.Offset < 0 || p.Offset > 8*whole || p.Length < 1 || p.Length > 8*whole {
		return api.ErrRange
	}
	_, _, e := lengthsOf(v, p.Length)
	return e
}

// regionError returns the error of a place, a voice and two ticks before the voice is divided.
func regionError(v api.Voice, p voice.Place, from, to int) api.Errno {
	switch e := placeError(v, p); {
	case e != api.OK:
		return e
	case len(v.Events) == 0:
		return api.ErrState
	case from < 0 || to < from || to > p.Length:
		return api.ErrRange
	}
	return api.OK
}

// dividedOf divides a voice as the chapter says.
func dividedOf(v api.Voice, p voice.Place, tick int) (api.Voice, api.Errno) {
	if e := regionError(v, p, tick, tick); e != api.OK {
		return api.Voice{}, e
	}
	onsets := onsetsOf(v, p.Length)
	if slices.Contains(onsets, tick) {
		return copied(v), api.OK
	}
	var out []member
	for i, m := range members(copied(v)) {
		a, b := onsets[i], onsets[i+1]
		if tick < a || tick > b {
			out = append(out, m)
			continue
		}
		if len(m.in) > 0 {
			return api.Voice{}, api.ErrFit
		}
		if (p.Offset+a)%finest != 0 || (p.Offset+tick)%finest != 0 || (p.Offset+b)%finest != 0 {
			return api.Voice{}, api.ErrTick
		}
		for _, x := range halvesOf(m.x, p, a, tick, b) {
			out = append(out, member{x: x})
		}
	}
	if len(out) > 128 {
		return api.Voice{}, api.ErrLimit
	}
	return voiceOf(out), api.OK
}

// halvesOf returns what replaces an event that is divided.
func halvesOf(x api.Event, p voice.Place, a, tick, b int) []api.Event {
	if x.Kind == api.MeasureRest {
		x.Kind = api.Rest
	}
	further := api.Event{Kind: x.Kind, Stem: x.Stem, Value: x.Value}
	held := event.Clone(x)
	for i, h := range x.Heads {
		further.Heads = append(further.Heads, api.Head{Pitch: h.Pitch, Tied: h.Tied})
		held.Heads[i].Tied = true
	}
	first := must(notesOf(held, p.Metre, p.Offset+a, p.Offset+tick))
	return append(first, must(notesOf(further, p.Metre, p.Offset+tick, p.Offset+b))...)
}

// regionOf returns the events of a voice, divided at two ticks: those before them, those between them, and those after them.
func regionOf(v api.Voice, p voice.Place, from, to int) (before, within, after []member, e api.Errno) {
	if e := regionError(v, p, from, to); e != api.OK {
		return nil, nil, nil, e
	}
	for _, tick := range []int{from, to} {
		if v, e = dividedOf(v, p, tick); e != api.OK {
			return nil, nil, nil, e
		}
	}
	onsets := onsetsOf(v, p.Length)
	inside := map[*api.Tuplet]int{}
	for i, m := range members(v) {
		switch {
		case onsets[i] < from:
			before = append(before, m)
		case onsets[i] >= to:
			after = append(after, m)
		default:
			within = append(within, m)
			for _, t := range m.in {
				inside[t]++
			}
		}
	}
	for t, n := range inside {
		if n != t.Count {
			return nil, nil, nil, api.ErrFit
		}
	}
	return before, within, after, api.OK
}

func cutOf(v api.Voice, p voice.Place, from, to int) (api.Voice, api.Errno) {
	_, within, _, e := regionOf(v, p, from, to)
	return voiceOf(within), e
}

// putOf puts events into a voice as the chapter says.
func putOf(v api.Voice, p voice.Place, from, to int, x api.Voice) (api.Voice, api.Errno) {
	before, _, after, e := regionOf(v, p, from, to)
	if e != api.OK {
		return api.Voice{}, e
	}
	_, total, e := lengthsOf(x, 8*whole)
	switch {
	case len(x.Events) == 1 && x.Events[0].Kind == api.MeasureRest && event.Check(x.Events[0]) == api.OK:
		return api.Voice{}, api.ErrKind
	case e != api.OK && e != api.ErrLength:
		return api.Voice{}, e
	case total != to-from:
		return api.Voice{}, api.ErrLength
	case from == to:
		return copied(v), api.OK
	}
	out := voiceOf(slices.Concat(before, members(copied(x)), after))
	if len(out.Events) > 128 || len(out.Tuplets) > 16 {
		return api.Voice{}, api.ErrLimit
	}
	for _, i := range []int{len(before) - 1, len(before) + len(x.Events) - 1} {
		if i < 0 || i == len(out.Events)-1 {
			continue
		}
		next := out.Events[i+1]
		for k, h := range out.Events[i].Heads {
			found := slices.ContainsFunc(next.Heads, func(o api.Head) bool { return o.Pitch == h.Pitch })
			out.Events[i].Heads[k].Tied = h.Tied && next.Kind == api.Chord && found
		}
	}
	return out, api.OK
}

func erasedOf(v api.Voice, p voice.Place, from, to int) (api.Voice, api.Errno) {
	if _, e := cutOf(v, p, from, to); e != api.OK {
		return api.Voice{}, e
	}
	if from == 0 && to == p.Length {
		return read("R"), api.OK
	}
	rests, e := notesOf(api.Event{Kind: api.Rest}, p.Metre, p.Offset+from, p.Offset+to)
	if e != api.OK {
		return api.Voice{}, e
	}
	return putOf(v, p, from, to, api.Voice{Events: rests})
}

// isRun reports whether some neighbouring events satisfy the definition of a run, but for its being as long as possible.
func isRun(l []member) bool {
	if len(l) < 2 {
		return false
	}
	rests, skips, chords := true, true, true
	first := l[0].x
	for i, m := range l {
		x := m.x
		if len(m.in) > 0 {
			return false
		}
		plain := x.Dynamic == 0 && x.Articulations == 0
		rests = rests && x.Kind == api.Rest && plain
		skips = skips && x.Kind == api.Skip && plain
		chords = chords && x.Kind == api.Chord
		if i > 0 {
			shown := slices.ContainsFunc(x.Heads, func(h api.Head) bool { return h.Show != 0 })
			chords = chords && plain && !shown && len(x.Graces) == 0 && x.Ornament == 0 && len(x.Lyrics) == 0 && x.Beam == 0 && x.Stem == first.Stem
		}
		if i < len(l)-1 {
			open := slices.ContainsFunc(x.Heads, func(h api.Head) bool { return !h.Tied })
			chords = chords && !open && reflect.DeepEqual(pitches(x.Heads), pitches(l[i+1].x.Heads))
		}
	}
	return rests || skips || chords
}

// pitches returns the pitches of heads.
func pitches(l []api.Head) []api.Pitch {
	out := []api.Pitch{}
	for _, h := range l {
		out = append(out, h.Pitch)
	}
	return out
}

// simpleOf simplifies a voice as the chapter says: it looks at all sequences of events.
func simpleOf(v api.Voice, p voice.Place) (api.Voice, api.Errno) {
	if e := placeError(v, p); e != api.OK {
		return api.Voice{}, e
	}
	all, onsets := members(copied(v)), onsetsOf(v, p.Length)
	var out []member
	for i := 0; i < len(all); {
		end := i + 1
		for k := i + 2; k <= len(all); k++ {
			if isRun(all[i:k]) && !(i > 0 && isRun(all[i-1:k])) && !(k < len(all) && isRun(all[i:k+1])) {
				end = k
			}
		}
		from, to := p.Offset+onsets[i], p.Offset+onsets[end]
		if end-i > 1 && from%finest == 0 && to%finest == 0 {
			x := event.Clone(all[i].x)
			for k := range x.Heads {
				x.Heads[k].Tied = all[end-1].x.Heads[k].Tied
			}
			if notes := must(notesOf(x, p.Metre, from, to)); len(notes) < end-i {
				for k, note := range notes {
					note.ID = all[i+k].x.ID
					out = append(out, member{x: note})
				}
				i = end
				continue
			}
		}
		out = append(out, all[i:end]...)
		i = end
	}
	return voiceOf(out), api.OK
}

// source makes voices at random.
type source struct{ *rand.Rand }

func pick[T any](r source, l ...T) T { return l[r.Intn(len(l))] }

// place returns a place; its measure is that of the time signature, a shorter or a longer one.
func (r source) place() voice.Place {
	p := in(pick(r, "4/4", "4/4", "3/4", "6/8", "2+2+3/8", "2/2", "5/8", "12/16"))
	switch r.Intn(6) {
	case 0:
		p.Length -= pick(r, eighth, quarter, 3*finest)
		p.Offset = must(metre.Offset(p.Metre, p.Length))
	case 1:
		p.Length += pick(r, sixteenth, quarter, 7*finest)
	case 2:
		p.Offset = pick(r, 5*eighth, finest, 100*finest, 3, 8*whole)
	}
	return p
}

// voice returns a valid voice of a length.
func (r source) voice(length int) api.Voice {
	if r.Intn(25) == 0 {
		return read(pick(r, "R", "9=R", "9=R!"))
	}
	for {
		v := r.words(length)
		if _, _, e := lengthsOf(v, length); e == api.OK && len(v.Events) > 0 {
			return v
		}
	}
}

// words returns a voice that usually has a length. Its chords are often tied to the same pitches, and its events off the beat at times.
func (r source) words(length int) api.Voice {
	var v api.Voice
	for left := length; left > 0; {
		text := pick(r, "x:4", "x:8", "x:8", "x:16", "x:16", "x:2", "x:8.", "x:4.", "x:32 x:32", "x:128.. x:128..")
		switch r.Intn(20) {
		case 0:
			text = "x:256."
		case 1, 2, 3, 4:
			text = pick(r, "(3:2 x:8 x:8 x:8 )", "(3:2 x:4 x:8 )", "(5:4 x:16 x:16 x:16 x:16 x:16 )", "(3:2 x:8 (3:2 x:16 x:16 x:16 ) x:8 )", "(2:3 x:8 x:8 )", "(3:2 (3:2 x:16 x:16 x:16 ) (3:2 x:16 x:16 x:16 ) x:8 )")
		}
		part := read(strings.ReplaceAll(text, "x", "r"))
		_, total, _ := lengthsOf(part, length)
		if total > left {
			l, e := duration.Decompose(left)
			if e != api.OK {
				return api.Voice{}
			}
			part = api.Voice{}
			for _, value := range l {
				part.Events = append(part.Events, event.Rest(api.ID{}, value))
			}
			total = left
		}
		for _, t := range part.Tuplets {
			t.First += len(v.Events)
			v.Tuplets = append(v.Tuplets, t)
		}
		for _, x := range part.Events {
			v.Events = append(v.Events, r.event(v.Events, x.Value))
		}
		left -= total
	}
	return v
}

// event returns an event that follows others.
func (r source) event(before []api.Event, value api.Value) api.Event {
	x := api.Event{Kind: pick(r, api.Chord, api.Chord, api.Rest, api.Skip), Value: value}
	if r.Intn(3) > 0 {
		x.ID = api.ID{Site: 1, Number: len(before) + 1}
	}
	if len(before) > 0 && r.Intn(2) > 0 {
		return r.again(before, x)
	}
	if x.Kind == api.Chord {
		x.Heads = readEvent(pick(r, "C4:4", "C4:4~", "C4+E4:4", "C4+E4:4~", "B#3:4~?", "C4+E4+G4:4?")).Heads
		x.Heads[0].Tied = x.Heads[0].Tied != (r.Intn(6) == 0)
		x.Stem = pick(r, 0, 0, 1)
	}
	if r.Intn(4) > 0 {
		return x
	}
	x.Dynamic = r.Intn(2)
	if x.Kind != api.Skip {
		x.Articulations = pick(r, 0, api.Fermata)
	}
	if x.Kind == api.Chord {
		x.Ornament, x.Beam = r.Intn(2), r.Intn(2)
		x.Graces = slices.Repeat([]api.Grace{{Pitch: api.Pitch{Octave: 5}, Log: 3}}, r.Intn(2))
		x.Lyrics = slices.Repeat([]api.Syllable{{Text: "la"}}, r.Intn(2))
	}
	return x
}

// again returns an event that mostly goes on with the last one of some; chords are tied to it.
func (r source) again(before []api.Event, x api.Event) api.Event {
	last := before[len(before)-1]
	x.Kind, x.Stem = last.Kind, last.Stem
	tied := r.Intn(8) > 0
	for i, h := range last.Heads {
		last.Heads[i].Tied = tied
		x.Heads = append(x.Heads, api.Head{Pitch: h.Pitch, Tied: r.Intn(4) == 0})
	}
	if x.Kind == api.Chord && r.Intn(8) == 0 {
		x.Stem = r.Intn(3)
	}
	if x.Kind == api.Chord && r.Intn(8) == 0 {
		x.Heads[0].Show = r.Intn(3)
	}
	if r.Intn(12) == 0 {
		x.Dynamic = 1
	}
	return x
}

// tick returns a tick of a voice, or sometimes one that is outside of it.
func (r source) tick(v api.Voice, p voice.Place) int {
	switch r.Intn(12) {
	case 0, 1, 2, 3, 4, 5:
		return pick(r, onsetsOf(v, p.Length)...)
	case 6, 7, 8:
		return r.Intn(p.Length/sixteenth+1) * sixteenth
	case 9, 10:
		return (r.Intn(p.Length/finest+1)*finest + finest - p.Offset%finest) % (p.Length + 1)
	}
	return pick(r, -1, 0, 1, p.Length-1, p.Length, p.Length+1, r.Intn(p.Length))
}

// voices calls a function with many valid voices and two ticks, and reports an error if it changes one.
func voices(t *testing.T, count int, test func(r source, v api.Voice, p voice.Place, from, to int)) {
	t.Helper()
	r := source{rand.New(rand.NewSource(12))}
	for range count {
		p := r.place()
		v := r.voice(p.Length)
		from, to := r.tick(v, p), r.tick(v, p)
		if from > to && r.Intn(12) > 0 {
			from, to = to, from
		}
		kept := copied(v)
		if test(r, v, p, from, to); !equal(v, kept) {
			t.Fatalf("the argument %v was changed from %v", v, kept)
		}
	}
}
