package check

import (
	"iter"
	"slices"

	"hemiola/api"
	"hemiola/event"
	"hemiola/measure"
	"hemiola/score"
	"hemiola/spanner"
)

// allEvents yields the events of the score, in its order, with their places.
func (c *checker) allEvents() iter.Seq2[score.Place, api.Event] {
	return func(yield func(score.Place, api.Event) bool) {
		for i, m := range c.score.Measures {
			for staff, cell := range m.Cells {
				for k, v := range cell.Voices {
					for n, x := range v.Events {
						if !yield(score.Place{Kind: score.Event, Measure: i, Staff: staff, Voice: k, Event: n}, x) {
							return
						}
					}
				}
			}
		}
	}
}

// next returns the place of the event that follows that at a place, and the event.
func (c *checker) next(p score.Place) (score.Place, api.Event, bool) {
	p, found := score.Next(c.score, p)
	if !found {
		return score.Place{}, api.Event{}, false
	}
	return p, c.score.Measures[p.Measure].Cells[p.Staff].Voices[p.Voice].Events[p.Event], true
}

// ties looks for ties to pitches that do not follow.
func (c *checker) ties() {
	for p, x := range c.allEvents() {
		if !event.Ties(x) {
			continue
		}
		if _, next, found := c.next(p); !found || !event.Joins(x, next) {
			c.violated(x.ID)
		}
	}
}

// line is a verse of a voice of a staff.
type line struct{ staff, voice, verse int }

// sung is a syllable that is not absent, with the id of its event.
type sung struct {
	event    api.ID
	syllable api.Syllable
}

// lyrics looks for hyphens without another syllable, and for extenders that continue none.
func (c *checker) lyrics() {
	last, wrong := map[line]sung{}, map[api.ID]bool{}
	for p, x := range c.allEvents() {
		for verse, s := range x.Lyrics {
			if s == (api.Syllable{}) {
				continue
			}
			at := line{p.Staff, p.Voice, verse}
			before := last[at] // without one, it has a zero Link
			if s.Text == "" && before.syllable.Link == api.Hyphen {
				wrong[before.event] = true
			}
			if s.Text == "" && before.syllable.Link != api.Extender {
				wrong[x.ID] = true
			}
			last[at] = sung{x.ID, s}
		}
	}
	for _, s := range last {
		if s.syllable.Link == api.Hyphen {
			wrong[s.event] = true
		}
	}
	for _, x := range c.allEvents() {
		if wrong[x.ID] {
			c.violated(x.ID)
		}
	}
}

// properSpan is a spanner that has its ends and is proper, and its span.
type properSpan struct {
	id   api.ID
	span spanner.Span
}

// ends looks for spanners that do not lead from an event to a later one of the same staff or voice, and keeps the others.
func (c *checker) ends() {
	if len(c.score.Spanners) == 0 {
		return
	}
	places := c.places()
	for _, x := range c.score.Spanners {
		from, begins := places[x.From]
		to, ends := places[x.To]
		s := spanner.Span{Kind: x.Kind, From: from, To: to}
		if !begins || !ends || spanner.Proper(s) != api.OK {
			c.violated(x.ID)
			continue
		}
		c.proper = append(c.proper, properSpan{x.ID, s})
	}
}

// places returns the places of all events, by their ids.
func (c *checker) places() map[api.ID]spanner.Place {
	places := map[api.ID]spanner.Place{}
	for i, m := range c.score.Measures {
		slots, _ := measure.Slots(m) // the voices have been checked before
		for _, s := range slots {
			id := m.Cells[s.Staff].Voices[s.Voice].Events[s.Event].ID
			places[id] = spanner.Place{Measure: i, At: s.On, Staff: s.Staff, Voice: s.Voice}
		}
	}
	return places
}

// nesting looks for spanners that exclude an earlier one.
func (c *checker) nesting() {
	earlier := map[int][]spanner.Span{} // by staves, because only spans of a staff exclude one another
	for _, x := range c.proper {
		staff := x.span.From.Staff
		if slices.ContainsFunc(earlier[staff], func(other spanner.Span) bool { return spanner.Conflict(other, x.span) }) {
			c.violated(x.id)
		}
		earlier[staff] = append(earlier[staff], x.span)
	}
}

// margins looks for ties that leave or enter a repeated section, where what is played next need not be what is written next.
func (c *checker) margins() {
	for p, x := range c.allEvents() {
		if !event.Ties(x) {
			continue
		}
		next, _, found := c.next(p)
		if found && next.Measure != p.Measure && parted(c.score.Measures[p.Measure], c.score.Measures[next.Measure]) {
			c.violated(x.ID)
		}
	}
}

// parted reports whether two neighbouring measures need not be played one after the other.
func parted(m, next api.Measure) bool {
	return m.RepeatEnd != 0 || m.Jump != 0 || m.Labels&(api.Fine|api.ToCoda) != 0 ||
		next.Endings != m.Endings || next.RepeatStart || next.Labels&(api.Segno|api.Coda) != 0
}
