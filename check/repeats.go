package check

import (
	"math/bits"

	"hemiola/api"
)

// maxPasses is how often a group can be played.
const maxPasses = 8

// repeats looks for the first measure that does not fit into groups of repeated measures and endings.
func (c *checker) repeats() {
	for _, m := range c.score.Measures {
		if m.RepeatEnd != 0 && !fromTo(m.RepeatEnd, 2, maxPasses) || !fromTo(m.Endings, 0, 1<<maxPasses-1) {
			c.violated(m.ID)
		}
	}
	if len(c.found) > 0 && c.found[len(c.found)-1].Rule == c.rule {
		return
	}
	var g group
	for _, m := range c.score.Measures {
		if !g.read(m) {
			c.violated(m.ID)
			return
		}
	}
	if !g.complete() {
		c.violated(c.score.Measures[len(c.score.Measures)-1].ID)
	}
}

// group is what has been read of a group: whether it has a body, whether this began with a RepeatStart, the bits of the endings before the current one, the bits of the current one, whether its RepeatEnd has been read, and the number of passes, which is 0 while it is not known. A run of measures without repeats is read as a body, because it may become one.
type group struct {
	body, started bool
	used, ending  int
	ended         bool
	passes        int
}

// read reads a measure, and reports whether the measures read so far can be continued to groups.
func (g *group) read(m api.Measure) bool {
	if m.Endings != 0 {
		return g.readEnding(m)
	}
	if g.ending != 0 {
		if !g.complete() {
			return false
		}
		*g = group{}
	}
	if m.RepeatStart && g.started {
		return false
	}
	g.body, g.started = true, g.started || m.RepeatStart
	if m.RepeatEnd != 0 {
		*g = group{}
	}
	return true
}

// readEnding reads a measure of an ending.
func (g *group) readEnding(m api.Measure) bool {
	if !g.body || m.RepeatStart {
		return false
	}
	if m.Endings != g.ending {
		if g.ending != 0 && !g.ended {
			return false
		}
		g.used, g.ending, g.ended = g.used|g.ending, m.Endings, false
		if !g.beginEnding() {
			return false
		}
	} else if g.ended {
		return false
	}
	return m.RepeatEnd == 0 || g.endEnding(m.RepeatEnd)
}

// beginEnding reports whether the current ending can follow those before it. If the number of passes is not known, it is the first one, and another pass is needed for the last one.
func (g *group) beginEnding() bool {
	switch {
	case g.passes == 0:
		return g.ending&1 != 0 && bits.Len(uint(g.ending)) < maxPasses
	case g.ending&g.used != 0:
		return false
	case g.ending>>(g.passes-1) != 0: // it has the last pass, or one beyond it
		return g.isLast()
	}
	return true
}

// isLast reports whether the current ending is that of the last pass, and those before it have all others.
func (g *group) isLast() bool {
	last := 1 << (g.passes - 1)
	return g.ending == last && g.used == last-1
}

// endEnding reads the RepeatEnd of the current ending, which is not the last one.
func (g *group) endEnding(passes int) bool {
	if g.passes != 0 && (passes != g.passes || g.isLast()) {
		return false
	}
	g.passes, g.ended = passes, true
	return g.ending>>(passes-1) == 0
}

// complete reports whether nothing is missing.
func (g *group) complete() bool {
	if g.ending == 0 {
		return !g.started
	}
	return g.passes != 0 && g.isLast()
}
