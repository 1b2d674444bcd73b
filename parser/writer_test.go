package parser_test

import (
	"fmt"
	"maps"
	"regexp"
	"slices"
	"strconv"
	"strings"

	"hemiola/api"
	"hemiola/clef"
	"hemiola/duration"
	"hemiola/lexer"
	"hemiola/metre"
	"hemiola/pitch"
	"hemiola/sample"
	"hemiola/score"
)

// text returns a text that is equal for equal values; nil lists are equal to empty ones.
func text(x any) string { return fmt.Sprintf("%+v", x) }

// writer writes texts. What can be written in several ways is written in one of them.
type writer struct {
	r        *sample.Source
	out      strings.Builder
	before   string // the piece before
	numbered bool
	last     api.ID
}

// written returns the text that a function writes, with blanks around it.
func written(r *sample.Source, numbered bool, write func(w *writer)) string {
	w := &writer{r: r, numbered: numbered}
	write(w)
	return blank(r) + w.out.String() + sample.Pick(r, "", "\n", " % end", "\n\n ")
}

func blank(r *sample.Source) string {
	return sample.Pick(r, " ", " ", "\n", "\t", "\r\n", " % { \" \n", "%\n ")
}

// merged tells what is merged, or gets another meaning, if one piece follows the other without a blank: words with letters and numbers, numbers with numbers, and strings with what links them.
var merged = regexp.MustCompile(`(^|[^0-9A-Za-z_])[A-Za-z][0-9A-Za-z_]*\n[0-9A-Za-z_]|[0-9]\n[0-9]|"\n[-_]`)

// put writes a piece, with or without a blank before it.
func (w *writer) put(piece string) {
	if w.before != "" && (w.r.Chance(60) || merged.MatchString(w.before+"\n"+piece)) {
		w.out.WriteString(blank(w.r))
	}
	w.out.WriteString(piece)
	w.before = piece
}

func (w *writer) words(l ...string) {
	for _, word := range l {
		w.put(word)
	}
}

func (w *writer) number(n int) {
	if n < 0 || n == 0 && w.r.Chance(20) {
		w.put("-")
		n = -n
	}
	w.natural(n)
}

func (w *writer) natural(n int) {
	w.put(sample.Pick(w.r, "", "", "", "", "0", "00") + strconv.Itoa(n))
}

// quoted writes a string, whose bytes can all be written as escapes.
func (w *writer) quoted(s, link string) {
	source, _ := lexer.Quote(s)
	if w.r.Chance(20) {
		source = `"`
		for i := range len(s) {
			source += fmt.Sprintf(`\x%02x`, s[i])
		}
		source += `"`
	}
	w.put(source + link)
}

func (w *writer) id(id api.ID) {
	w.put("@")
	w.natural(id.Site)
	w.put(".")
	w.natural(id.Number)
}

// object writes the id of an object if it is not the next one, and sometimes if it is.
func (w *writer) object(id api.ID) {
	next := api.ID{Site: w.last.Site, Number: w.last.Number + 1}
	if !w.numbered {
		next = api.ID{}
	}
	if id != next || w.numbered && w.r.Chance(20) {
		w.id(id)
	}
	w.last = id
}

func (w *writer) score(s api.Score) {
	w.put("score")
	w.quoted(s.Title, "")
	if s.Written {
		w.put("written")
	}
	if !slices.Equal(s.Last, greatest(s)) || len(s.Last) > 0 && w.r.Chance(20) {
		w.put("last")
		for _, id := range s.Last {
			w.id(id)
		}
	}
	for _, p := range s.Parts {
		w.part(p)
	}
	before := api.Measure{Metre: api.Metre{Count: 4, Unit: 4}}
	for _, m := range s.Measures {
		w.measure(m, before)
		before = m
	}
	for _, x := range s.Spanners {
		w.put(choices["KIND"][x.Kind-1])
		w.object(x.ID)
		w.put("(")
		w.id(x.From)
		w.id(x.To)
		w.put(")")
	}
}

// greatest returns the greatest ids of the objects of a score, by sites.
func greatest(s api.Score) []api.ID {
	numbers := map[int]int{}
	for _, id := range score.IDs(s) {
		numbers[id.Site] = max(numbers[id.Site], id.Number)
	}
	var l []api.ID
	for _, site := range slices.Sorted(maps.Keys(numbers)) {
		l = append(l, api.ID{Site: site, Number: numbers[site]})
	}
	return l
}

func (w *writer) part(p api.Part) {
	w.put("part")
	w.object(p.ID)
	w.quoted(p.Name, "")
	if p.Transpose != (api.Interval{}) || w.r.Chance(20) {
		w.put("transpose")
		w.number(p.Transpose.Steps)
		w.number(p.Transpose.Semitones)
	}
	for _, x := range p.Staves {
		w.put("staff")
		w.object(x.ID)
		w.clef(x.Clef)
	}
}

func (w *writer) clef(n int) {
	name, _ := clef.Name(n)
	w.put(name)
}

// option writes the words of an option if it is needed.
func (w *writer) option(needed bool, word string, write func()) {
	if needed {
		w.put(word)
		write()
	}
}

func (w *writer) measure(m, before api.Measure) {
	w.put("measure")
	w.object(m.ID)
	nothing := func() {}
	w.option(m.Metre != before.Metre || w.r.Chance(20), "metre", func() {
		name, _ := metre.Text(m.Metre)
		w.put(name)
	})
	w.option(m.Length != 0, "length", func() { w.natural(m.Length) })
	w.option(m.Fifths != before.Fifths || w.r.Chance(20), "key", func() { w.number(m.Fifths) })
	w.option(m.RepeatStart, "repeat", nothing)
	w.option(m.RepeatEnd != 0, "times", func() { w.natural(m.RepeatEnd) })
	w.option(m.Endings != 0, "endings", func() { w.natural(m.Endings) })
	w.option(m.Jump != 0, "jump", func() { w.put(choices["JUMP"][m.Jump-1]) })
	for bit, word := range []string{"segno", "coda", "fine", "tocoda"} {
		w.option(m.Labels>>bit&1 == 1, word, nothing)
	}
	w.option(m.Swing != 0, "swing", func() { w.natural(m.Swing) })
	w.option(m.Break != 0, "break", func() { w.put(choices["BREAK"][m.Break-1]) })
	w.option(m.Rehearsal != "" || w.r.Chance(10), "mark", func() { w.quoted(m.Rehearsal, "") })
	for _, x := range m.Tempi {
		w.put("tempo")
		w.natural(x.At)
		w.natural(x.Micros)
		w.option(x.Ramp, "ramp", nothing)
	}
	w.put("{")
	for i, c := range m.Cells {
		w.option(i > 0, "/", nothing)
		w.cell(c)
	}
	w.put("}")
}

func (w *writer) cell(c api.Cell) {
	for _, x := range c.Clefs {
		w.put("clef")
		w.natural(x.At)
		w.clef(x.Clef)
	}
	for i, v := range c.Voices {
		w.option(i > 0, ";", func() {})
		w.voice(v)
	}
}

func (w *writer) voice(v api.Voice) {
	for i, x := range v.Events {
		for _, t := range v.Tuplets {
			if t.First == i {
				w.put("(")
				w.natural(t.Actual)
				w.put(":")
				w.natural(t.Normal)
			}
		}
		w.event(x)
		for _, t := range v.Tuplets {
			w.option(t.First+t.Count == i+1, ")", func() {})
		}
	}
}

func (w *writer) event(x api.Event) {
	w.object(x.ID)
	if len(x.Graces) > 0 {
		w.words("grace", "(")
		for _, g := range x.Graces {
			w.option(g.Slash, "/", func() {})
			w.pitch(g.Pitch)
			w.put(":")
			w.natural(1 << g.Log)
		}
		w.put(")")
	}
	switch x.Kind {
	case api.Chord:
		w.heads(x.Heads)
	case api.Rest:
		w.put("r")
	case api.Skip:
		w.put("s")
	case api.MeasureRest:
		w.put("R")
	}
	if x.Kind != api.MeasureRest {
		value, _ := duration.Text(x.Value)
		w.words(":", value)
	}
	w.signs(x)
	for _, y := range x.Lyrics {
		if y == (api.Syllable{Link: api.Extender}) && w.r.Chance(70) {
			w.put("_")
			continue
		}
		w.quoted(y.Text, []string{"", "-", "_"}[y.Link])
	}
}

func (w *writer) pitch(p api.Pitch) {
	name, _ := pitch.Name(p)
	w.put(name)
}

func (w *writer) heads(l []api.Head) {
	bracket := len(l) > 1 || w.r.Chance(20)
	w.option(bracket, "<", func() {})
	for _, h := range l {
		w.pitch(h.Pitch)
		w.option(h.Tied, "~", func() {})
		w.option(h.Show == api.ShowAlways, "!", func() {})
		w.option(h.Show == api.ShowParentheses, "?", func() {})
	}
	w.option(bracket, ">", func() {})
}

func (w *writer) signs(x api.Event) {
	var l []string
	for bit, word := range signs[0] {
		if x.Articulations>>bit&1 == 1 {
			l = append(l, word)
		}
	}
	for i, n := range []int{x.Ornament, x.Dynamic, x.Stem, x.Beam} {
		if n > 0 {
			l = append(l, signs[i+1][n-1])
		}
	}
	if len(l) > 0 {
		w.put("[")
		w.words(l...)
		w.put("]")
	}
}
