package check_test

import (
	"fmt"
	"slices"
	"strings"

	"hemiola/api"
	"hemiola/check"
	"hemiola/clef"
	"hemiola/event"
	"hemiola/interval"
	"hemiola/key"
	"hemiola/measure"
	"hemiola/pitch"
	"hemiola/spanner"
	"hemiola/voice"
)

// text returns a text that is equal for equal values; nil lists are equal to empty ones.
func text(x any) string { return fmt.Sprintf("%+v", x) }

// texts returns the texts of violations.
func texts(l []api.Violation) string {
	var words []string
	for _, v := range l {
		words = append(words, check.Text(v))
	}
	return strings.Join(words, ", ")
}

// object is an object of a score, by its kind and the indices that the kind has.
type object struct {
	kind                               int
	id                                 api.ID
	part, staff, measure, voice, event int
	spanner                            int
}

const (
	part = iota
	staff
	bar
	note
	line
	all
)

// objectsOf returns the objects of a score in order, and last the score.
func objectsOf(s api.Score) []object {
	var l []object
	for i, p := range s.Parts {
		l = append(l, object{kind: part, id: p.ID, part: i})
		for k, x := range p.Staves {
			l = append(l, object{kind: staff, id: x.ID, part: i, staff: k})
		}
	}
	for i, m := range s.Measures {
		l = append(l, object{kind: bar, id: m.ID, measure: i})
		for k, c := range m.Cells {
			for n, v := range c.Voices {
				for j, x := range v.Events {
					l = append(l, object{kind: note, id: x.ID, measure: i, staff: k, voice: n, event: j})
				}
			}
		}
	}
	for i, x := range s.Spanners {
		l = append(l, object{kind: line, id: x.ID, spanner: i})
	}
	return append(l, object{kind: all})
}

// checkOf returns all violations, rule by rule and object by object, as the chapter says.
func checkOf(s api.Score) []api.Violation {
	var l []api.Violation
	objects := objectsOf(s)
	for i, violates := range []func(s api.Score, o object) bool{limitsOf, idsOf(objects), structureOf, clefsOf, metresOf, voicesOf, tupletsOf, eventsOf, pitchesOf, tiesOf, lyricsOf(objects), endsOf(objects), nestingOf(objects), repeatsOf(s), jumpsOf, tempiOf, marginsOf} {
		if len(l) > 0 && (i+1 == check.Ids || i+1 == check.Ties) {
			break
		}
		for _, o := range objects {
			if violates(s, o) {
				l = append(l, api.Violation{Rule: i + 1, Object: o.id})
			}
		}
	}
	return l
}

func plainOf(s string) bool {
	for i := range len(s) {
		if s[i] < 32 || s[i] == 127 {
			return false
		}
	}
	return len(s) <= 256
}

func limitsOf(s api.Score, o object) bool {
	switch o.kind {
	case all:
		return !plainOf(s.Title) || len(s.Parts) < 1 || len(s.Parts) > 32 || len(s.Measures) < 1 || len(s.Measures) > 1024 || len(s.Spanners) > 4096 || len(s.Last) > 100
	case part:
		p := s.Parts[o.part]
		return !plainOf(p.Name) || len(p.Staves) < 1 || len(p.Staves) > 4 || interval.Check(p.Transpose) != api.OK
	case bar:
		m := s.Measures[o.measure]
		long := !plainOf(m.Rehearsal) || len(m.Tempi) > 64
		for _, c := range m.Cells {
			long = long || len(c.Clefs) > 64 || len(c.Voices) > 2
			for _, v := range c.Voices {
				long = long || len(v.Events) > 128 || len(v.Tuplets) > 16
			}
		}
		return long
	}
	return false
}

func idsOf(objects []object) func(s api.Score, o object) bool {
	seen := map[api.ID]int{}
	proper := func(id api.ID) bool {
		return id.Site >= 0 && id.Site <= 99 && id.Number >= 1 && id.Number <= 1<<30
	}
	return func(s api.Score, o object) bool {
		if o.kind == all {
			for i, id := range s.Last {
				if !proper(id) || i > 0 && s.Last[i-1].Site >= id.Site {
					return true
				}
			}
			return false
		}
		seen[o.id]++
		last := 0
		for _, id := range slices.Backward(s.Last) {
			if id.Site == o.id.Site {
				last = id.Number
			}
		}
		return !proper(o.id) || seen[o.id] > 1 || o.id.Number > last
	}
}

func structureOf(s api.Score, o object) bool {
	if o.kind != bar {
		return false
	}
	staves := 0
	for _, p := range s.Parts {
		staves += len(p.Staves)
	}
	m := s.Measures[o.measure]
	for _, c := range m.Cells {
		if len(c.Voices) == 0 || len(c.Voices[0].Events) == 0 || len(c.Voices[len(c.Voices)-1].Events) == 0 {
			return true
		}
		for _, v := range c.Voices {
			if len(v.Events) == 0 && len(v.Tuplets) > 0 {
				return true
			}
		}
	}
	return len(m.Cells) != staves
}

func clefsOf(s api.Score, o object) bool {
	if o.kind == staff {
		return clef.Check(s.Parts[o.part].Staves[o.staff].Clef) != api.OK
	}
	if o.kind != bar {
		return false
	}
	length, e := measure.Length(s.Measures[o.measure])
	if e != api.OK {
		return false
	}
	for _, c := range s.Measures[o.measure].Cells {
		for i, x := range c.Clefs {
			if clef.Check(x.Clef) != api.OK || x.At < 0 || x.At > length-1 || i > 0 && c.Clefs[i-1].At >= x.At {
				return true
			}
		}
	}
	return false
}

func metresOf(s api.Score, o object) bool {
	if o.kind != bar {
		return false
	}
	m := s.Measures[o.measure]
	_, e := measure.Length(m)
	wrong := e != api.OK || m.Fifths < -7 || m.Fifths > 7
	for _, p := range s.Parts {
		_, e := key.Transpose(m.Fifths, p.Transpose)
		wrong = wrong || s.Written && e != api.OK
	}
	return wrong
}

// voiceErrorsOf returns the errors of the voices of a measure all events of which are well-formed.
func voiceErrorsOf(s api.Score, o object) []api.Errno {
	if o.kind != bar {
		return nil
	}
	length, e := measure.Length(s.Measures[o.measure])
	if e != api.OK {
		return nil
	}
	var l []api.Errno
	for _, c := range s.Measures[o.measure].Cells {
	voices:
		for _, v := range c.Voices {
			for _, x := range v.Events {
				if event.Check(x) != api.OK {
					continue voices
				}
			}
			l = append(l, voice.Check(v, length))
		}
	}
	return l
}

func voicesOf(s api.Score, o object) bool {
	l := voiceErrorsOf(s, o)
	return slices.Contains(l, api.ErrKind) || slices.Contains(l, api.ErrLength)
}

func tupletsOf(s api.Score, o object) bool {
	for _, e := range voiceErrorsOf(s, o) {
		if e != api.ErrKind && e != api.ErrLength && e != api.OK {
			return true
		}
	}
	return false
}

func eventOf(s api.Score, o object) api.Event {
	return s.Measures[o.measure].Cells[o.staff].Voices[o.voice].Events[o.event]
}

func eventsOf(s api.Score, o object) bool {
	return o.kind == note && event.Check(eventOf(s, o)) != api.OK
}

func pitchesOf(s api.Score, o object) bool {
	if o.kind != note || event.Check(eventOf(s, o)) != api.OK {
		return false
	}
	semitones, staves := 0, 0
	for _, p := range s.Parts {
		for range p.Staves {
			if staves == o.staff {
				semitones = p.Transpose.Semitones
			}
			staves++
		}
	}
	if s.Written {
		semitones = -semitones
	}
	var l []api.Pitch
	for _, h := range eventOf(s, o).Heads {
		l = append(l, h.Pitch)
	}
	for _, g := range eventOf(s, o).Graces {
		l = append(l, g.Pitch)
	}
	for _, p := range l {
		if n, _ := pitch.Number(p); n+semitones < 0 || n+semitones > 127 {
			return true
		}
	}
	return false
}

// nextOf returns the event that follows another one.
func nextOf(s api.Score, o object) (object, bool) {
	events := func(o object) []api.Event {
		if o.measure >= len(s.Measures) || o.voice >= len(s.Measures[o.measure].Cells[o.staff].Voices) {
			return nil
		}
		return s.Measures[o.measure].Cells[o.staff].Voices[o.voice].Events
	}
	if o.event++; o.event < len(events(o)) {
		return o, true
	}
	o.measure, o.event = o.measure+1, 0
	return o, len(events(o)) > 0
}

// tied reports whether an object is an event with a tied head.
func tied(s api.Score, o object) bool {
	if o.kind != note {
		return false
	}
	for _, h := range eventOf(s, o).Heads {
		if h.Tied {
			return true
		}
	}
	return false
}

func tiesOf(s api.Score, o object) bool {
	if !tied(s, o) {
		return false
	}
	next, found := nextOf(s, o)
	if !found {
		return true
	}
	for _, h := range eventOf(s, o).Heads {
		joined := false
		for _, other := range eventOf(s, next).Heads {
			joined = joined || other.Pitch == h.Pitch
		}
		if h.Tied && !joined {
			return true
		}
	}
	return false
}

// verseOf returns the syllables of a verse in the events of a voice that are not absent, with the ids of the events.
func verseOf(s api.Score, objects []object, o object, verse int) (l []api.Syllable, ids []api.ID) {
	for _, other := range objects {
		if other.kind != note || other.staff != o.staff || other.voice != o.voice {
			continue
		}
		x := eventOf(s, other)
		if verse < len(x.Lyrics) && (x.Lyrics[verse].Text != "" || x.Lyrics[verse].Link != api.WordEnd) {
			l, ids = append(l, x.Lyrics[verse]), append(ids, x.ID)
		}
	}
	return l, ids
}

func lyricsOf(objects []object) func(s api.Score, o object) bool {
	return func(s api.Score, o object) bool {
		if o.kind != note {
			return false
		}
		for verse, x := range eventOf(s, o).Lyrics {
			l, ids := verseOf(s, objects, o, verse)
			i := slices.Index(ids, o.id)
			if x.Link == api.Hyphen && (i+1 == len(l) || l[i+1].Text == "") {
				return true
			}
			if x.Text == "" && x.Link == api.Extender && (i == 0 || l[i-1].Link != api.Extender) {
				return true
			}
		}
		return false
	}
}

// spanOf returns the span of a spanner, and false if an end is no event.
func spanOf(s api.Score, objects []object, x api.Spanner) (spanner.Span, bool) {
	find := func(id api.ID) (spanner.Place, bool) {
		for _, o := range objects {
			if o.kind == note && o.id == id {
				length, _ := measure.Length(s.Measures[o.measure])
				onsets, _ := voice.Onsets(s.Measures[o.measure].Cells[o.staff].Voices[o.voice], length)
				return spanner.Place{Measure: o.measure, At: onsets[o.event], Staff: o.staff, Voice: o.voice}, true
			}
		}
		return spanner.Place{}, false
	}
	from, begins := find(x.From)
	to, ends := find(x.To)
	span := spanner.Span{Kind: x.Kind, From: from, To: to}
	return span, begins && ends && spanner.Proper(span) == api.OK
}

func endsOf(objects []object) func(s api.Score, o object) bool {
	return func(s api.Score, o object) bool {
		if o.kind != line {
			return false
		}
		_, proper := spanOf(s, objects, s.Spanners[o.spanner])
		return !proper
	}
}

func nestingOf(objects []object) func(s api.Score, o object) bool {
	return func(s api.Score, o object) bool {
		if o.kind != line {
			return false
		}
		span, proper := spanOf(s, objects, s.Spanners[o.spanner])
		for _, x := range s.Spanners[:o.spanner] {
			other, is := spanOf(s, objects, x)
			if proper && is && spanner.Conflict(other, span) {
				return true
			}
		}
		return false
	}
}

func jumpsOf(s api.Score, o object) bool {
	if o.kind != bar {
		return false
	}
	m := s.Measures[o.measure]
	if m.Jump < 0 || m.Jump > 6 || m.Labels < 0 || m.Labels > 15 || (m.Jump != 0 || m.Labels != 0) && (m.RepeatEnd != 0 || m.Endings != 0) {
		return true
	}
	for _, earlier := range s.Measures[:o.measure] {
		if m.Jump != 0 && earlier.Jump != 0 || m.Labels&earlier.Labels != 0 {
			return true
		}
	}
	first := func(label int) int {
		for i, x := range s.Measures {
			if x.Labels&label != 0 {
				return i
			}
		}
		return 1 << 20
	}
	needs := map[int][]int{api.DaCapoFine: {api.Fine}, api.DaCapoCoda: {api.ToCoda}, api.DalSegno: {api.Segno}, api.DalSegnoFine: {api.Segno, api.Fine}, api.DalSegnoCoda: {api.Segno, api.ToCoda}}
	for _, label := range needs[m.Jump] {
		if first(label) > o.measure || label == api.ToCoda && (first(api.Coda) == 1<<20 || first(api.Coda) <= first(api.ToCoda)) {
			return true
		}
	}
	return false
}

func tempiOf(s api.Score, o object) bool {
	if o.kind != bar {
		return false
	}
	m := s.Measures[o.measure]
	length, _ := measure.Length(m)
	for i, x := range m.Tempi {
		if x.At < 0 || x.At > length-1 || x.Micros < 1 || x.Micros > 60000000 || i > 0 && m.Tempi[i-1].At >= x.At {
			return true
		}
	}
	return m.Swing != 0 && (m.Swing < 50 || m.Swing > 75) || m.Break < 0 || m.Break > 3
}

func marginsOf(s api.Score, o object) bool {
	next, found := nextOf(s, o)
	if !tied(s, o) || !found || next.measure == o.measure {
		return false
	}
	m, other := s.Measures[o.measure], s.Measures[next.measure]
	return m.RepeatEnd != 0 || m.Jump != 0 || m.Labels&4 != 0 || m.Labels&8 != 0 || other.Endings != m.Endings || other.RepeatStart || other.Labels&1 != 0 || other.Labels&2 != 0
}
