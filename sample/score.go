package sample

import (
	"slices"

	"hemiola/api"
	"hemiola/score"
)

// eighth is the ticks of an eighth note; everything but tuplets begins at multiples of it.
const eighth = api.Whole / 8

// Score returns a valid score with something of almost everything that scores may have.
func Score(r *Source) api.Score {
	s := api.Score{Title: Pick(r, "", "Trio", "Étude"), Written: r.Chance(30), Parts: makeParts(r)}
	s.Measures = makeForm(r)
	addJump(r, s.Measures)
	metre := makeMetre(r)
	fifths := r.Below(7) - 3
	for i := range s.Measures {
		if r.Chance(20) {
			metre, fifths = makeMetre(r), r.Below(7)-3
		}
		s.Measures[i].Metre, s.Measures[i].Fifths = metre, fifths
		fillMeasure(r, &s.Measures[i], score.Staves(s))
	}
	s = score.Renumber(s)
	tieHeads(r, s)
	for staff := range score.Staves(s) {
		for verse := range r.Below(api.MaxVerses) {
			addLyrics(r, s, staff, r.Below(api.MaxVoices), verse)
		}
	}
	return addSpanners(r, s)
}

func makeParts(r *Source) []api.Part {
	var l []api.Part
	for range 1 + r.Below(3) {
		p := api.Part{Name: Pick(r, "", "Flute", "Horn", "Voice")}
		if r.Chance(40) {
			p.Transpose = Pick(r, api.Interval{Steps: 1, Semitones: 2}, api.Interval{Steps: 4, Semitones: 7}, api.Interval{Steps: -2, Semitones: -3}, api.Interval{Steps: 7, Semitones: 12})
		}
		for range 1 + r.Below(2) {
			p.Staves = append(p.Staves, api.Staff{Clef: 1 + r.Below(4)})
		}
		l = append(l, p)
	}
	return l
}

func makeMetre(r *Source) api.Metre {
	return Pick(r, api.Metre{Count: 4, Unit: 4}, api.Metre{Count: 3, Unit: 4}, api.Metre{Count: 6, Unit: 8}, api.Metre{Count: 5, Unit: 8, Groups: [6]int{3, 2}}, api.Metre{Count: 2, Unit: 2})
}

// makeForm returns measures that have only repeats and endings.
func makeForm(r *Source) []api.Measure {
	var l []api.Measure
	for range 1 + r.Below(4) {
		group := make([]api.Measure, 1+r.Below(3))
		switch r.Below(4) {
		case 0:
			group[0].RepeatStart = r.Chance(60)
			group[len(group)-1].RepeatEnd = 2 + r.Below(2)
		case 1:
			group[0].RepeatStart = r.Chance(60)
			group = append(group, makeEndings(r)...)
		}
		l = append(l, group...)
	}
	return l
}

// makeEndings returns the measures of endings for two to four passes.
func makeEndings(r *Source) []api.Measure {
	passes := 2 + r.Below(3)
	var l []api.Measure
	bits := 0
	for pass := range passes {
		bits |= 1 << pass
		if pass < passes-2 && r.Chance(50) {
			continue // the next pass has the same ending
		}
		l = append(l, slices.Repeat([]api.Measure{{Endings: bits}}, 1+r.Below(2))...)
		if pass < passes-1 {
			l[len(l)-1].RepeatEnd = passes
		}
		bits = 0
	}
	return l
}

// addJump adds a jump and the labels that it needs, if there is room for them.
func addJump(r *Source, l []api.Measure) {
	var free []int
	for i, m := range l {
		if m.RepeatEnd == 0 && m.Endings == 0 {
			free = append(free, i)
		}
	}
	if len(free) < 4 || r.Chance(60) {
		return
	}
	at := 1 + r.Below(len(free)-2)
	jump := 1 + r.Below(api.DalSegnoCoda)
	l[free[at]].Jump = jump
	if jump >= api.DalSegno || r.Chance(10) {
		l[free[r.Below(at+1)]].Labels |= api.Segno
	}
	switch jump {
	case api.DaCapoFine, api.DalSegnoFine:
		l[free[r.Below(at+1)]].Labels |= api.Fine
	case api.DaCapoCoda, api.DalSegnoCoda:
		l[free[r.Below(at+1)]].Labels |= api.ToCoda
		l[free[at+1+r.Below(len(free)-at-1)]].Labels |= api.Coda
	}
}
