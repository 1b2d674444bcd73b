package sample

import (
	"slices"

	"hemiola/api"
	"hemiola/measure"
	"hemiola/score"
	"hemiola/spanner"
)

// eventAt returns the event of a score at a place, so that it can be changed.
func eventAt(s api.Score, p score.Place) *api.Event {
	return &s.Measures[p.Measure].Cells[p.Staff].Voices[p.Voice].Events[p.Event]
}

// places returns the places of the events of a voice of a staff.
func places(s api.Score, staff, voice int) []score.Place {
	var l []score.Place
	for i, m := range s.Measures {
		if voice >= len(m.Cells[staff].Voices) {
			continue
		}
		for n := range m.Cells[staff].Voices[voice].Events {
			l = append(l, score.Place{Kind: score.Event, Measure: i, Staff: staff, Voice: voice, Event: n})
		}
	}
	return l
}

// tieHeads ties some heads to the same pitches of the next events, and removes the ties that lead nowhere.
func tieHeads(r *Source, s api.Score) {
	for staff := range score.Staves(s) {
		for voice := range api.MaxVoices {
			for _, p := range places(s, staff, voice) {
				next, found := score.Next(s, p)
				x := eventAt(s, p)
				for k, h := range x.Heads {
					tied := h.Tied || r.Chance(50)
					x.Heads[k].Tied = tied && found && !parted(s.Measures[p.Measure], s.Measures[next.Measure], p.Measure == next.Measure) &&
						slices.ContainsFunc(eventAt(s, next).Heads, func(other api.Head) bool { return other.Pitch == h.Pitch })
				}
			}
		}
	}
}

// parted reports whether no tie may lead from a measure into the next one.
func parted(m, next api.Measure, same bool) bool {
	return !same && (m.RepeatEnd != 0 || m.Jump != 0 || m.Labels&(api.Fine|api.ToCoda) != 0 ||
		m.Endings != next.Endings || next.RepeatStart || next.Labels&(api.Segno|api.Coda) != 0)
}

// addLyrics adds a verse to most of the chords of a voice of a staff.
func addLyrics(r *Source, s api.Score, staff, voice, verse int) {
	link, last := api.WordEnd, (*api.Syllable)(nil)
	for _, p := range places(s, staff, voice) {
		x := eventAt(s, p)
		if x.Kind != api.Chord || r.Chance(15) {
			continue
		}
		y := api.Syllable{Text: Pick(r, "la", "Ky", "e", "-"), Link: Pick(r, api.WordEnd, api.Hyphen, api.Extender)}
		if link == api.Extender && r.Chance(60) {
			y = api.Syllable{Link: api.Extender}
		}
		for len(x.Lyrics) <= verse {
			x.Lyrics = append(x.Lyrics, api.Syllable{})
		}
		x.Lyrics[verse] = y
		link, last = y.Link, &x.Lyrics[verse]
	}
	if link == api.Hyphen {
		last.Link = api.WordEnd
	}
}

// addSpanners adds spanners between events of the same staff, as far as the rules allow.
func addSpanners(r *Source, s api.Score) api.Score {
	var spans []spanner.Span
	for range r.Below(12) {
		staff, voice := r.Below(score.Staves(s)), r.Below(api.MaxVoices)
		l := places(s, staff, voice)
		if len(l) < 2 {
			continue
		}
		from := r.Below(len(l) - 1)
		to := min(from+1+r.Below(6), len(l)-1)
		span := spanner.Span{Kind: 1 + r.Below(api.TrillLine), From: spannerPlace(s, l[from]), To: spannerPlace(s, l[to])}
		if _, e := spanner.Check(append(slices.Clone(spans), span)); e == api.OK {
			spans = append(spans, span)
			s.Spanners = append(s.Spanners, api.Spanner{Kind: span.Kind, From: eventAt(s, l[from]).ID, To: eventAt(s, l[to]).ID})
		}
	}
	return score.Renumber(s)
}

func spannerPlace(s api.Score, p score.Place) spanner.Place {
	slot, _ := measure.Find(s.Measures[p.Measure], eventAt(s, p).ID)
	return spanner.Place{Measure: p.Measure, At: slot.On, Staff: p.Staff, Voice: p.Voice}
}
