package check

import (
	"strings"

	"hemiola/api"
	"hemiola/interval"
	"hemiola/score"
)

// maxMarks is the greatest number of tempo marks of a measure, and of clef changes of a cell.
const maxMarks = 64

// limits looks for what is too long or too many.
func (c *checker) limits() {
	for _, p := range c.score.Parts {
		if !plain(p.Name) || !fromTo(len(p.Staves), 1, api.MaxStaves) || interval.Check(p.Transpose) != api.OK {
			c.violated(p.ID)
		}
	}
	for _, m := range c.score.Measures {
		if !limitedMeasure(m) {
			c.violated(m.ID)
		}
	}
	if !limitedScore(c.score) {
		c.violated(api.ID{})
	}
}

// plain reports whether a text has no control characters, and is not too long.
func plain(text string) bool {
	control := func(r rune) bool { return r < 32 || r == 127 }
	return len(text) <= api.MaxText && !strings.ContainsFunc(text, control)
}

// fromTo reports whether a number is neither less than the least nor greater than the greatest one.
func fromTo(n, least, greatest int) bool { return n >= least && n <= greatest }

func limitedScore(s api.Score) bool {
	return plain(s.Title) && fromTo(len(s.Parts), 1, api.MaxParts) && fromTo(len(s.Measures), 1, api.MaxMeasures) &&
		len(s.Spanners) <= api.MaxSpanners && len(s.Last) <= api.MaxSite+1
}

func limitedMeasure(m api.Measure) bool {
	for _, cell := range m.Cells {
		if len(cell.Clefs) > maxMarks || len(cell.Voices) > api.MaxVoices {
			return false
		}
		for _, v := range cell.Voices {
			if len(v.Events) > api.MaxEvents || len(v.Tuplets) > api.MaxTuplets {
				return false
			}
		}
	}
	return plain(m.Rehearsal) && len(m.Tempi) <= maxMarks
}

// ids looks for ids that are not valid, not unknown to Last, or used twice, and for a Last that is not in order.
func (c *checker) ids() {
	last, used := map[int]int{}, map[api.ID]bool{}
	for site := range api.MaxSite + 1 {
		last[site] = score.Last(c.score, site)
	}
	for _, id := range score.IDs(c.score) {
		if !isID(id) || used[id] || id.Number > last[id.Site] {
			c.violated(id)
		}
		used[id] = true
	}
	for i, id := range c.score.Last {
		if !isID(id) || i > 0 && id.Site <= c.score.Last[i-1].Site {
			c.violated(api.ID{})
			return
		}
	}
}

// isID reports whether an object may have an id.
func isID(id api.ID) bool {
	return fromTo(id.Site, 0, api.MaxSite) && fromTo(id.Number, 1, api.MaxNumber)
}
